/-
  Four cells are one cell each. What seek.within answers: a contract over this translation. What seek.soleEntries answers: a contract over this translation. What ProveSpan answers is taken by CheckSpan, and tells what the list has.
-/
import Derived.Test.YtecacjddggljgaaDoorPartAG
import Derived.Test.YtecacjddggljgaaDoorPartDE
import Derived.Test.YtecacjddggljgaaDoorPartDC
namespace Go.Proofs.YtecacjddggljgaaDoor
open Go.RowKit Go.Sort Go.Shelf
set_option linter.unusedSectionVars false
variable [Inhabited E] [DecidableEq E]
theorem one4 (k v : ByteArray) (d : Bool) (q : Int) : (#[Value.string k, .string v, .bool d, .int .i64 q] : Array Value).all (·.oneCell') = true := by simp [Value.oneCell']
end Go.Proofs.YtecacjddggljgaaDoor
namespace Go.Proofs.YtecacjddggljgaaDoor
open Go.RowKit Go.Sort Go.Shelf
set_option linter.unusedSectionVars false
variable [Inhabited E] [DecidableEq E]
def inB (lo hi : ByteArray) (e : E) : Bool := decide (cmpS lo e.key ≤ 0) && belB e.key hi
def withB (lo hi : ByteArray) (es : List E) : List E := es.filter (inB lo hi)
theorem withB_snoc (lo hi : ByteArray) (es : List E) (i : Nat) (h : i < es.length) (e : E) (he : es[i]! = e) : withB lo hi (es.take (i + 1)) = withB lo hi (es.take i) ++ (if inB lo hi e = true then [e] else []) := by
  unfold withB
  rw [take_snoc es i h, List.filter_append, he]
  congr 1
  by_cases hb : inB lo hi e = true
  · rw [if_pos hb, List.filter_cons_of_pos hb, List.filter_nil]
  · rw [if_neg hb, List.filter_cons_of_neg hb, List.filter_nil]
theorem withB_len (lo hi : ByteArray) (es : List E) (i : Nat) : (withB lo hi (es.take i)).length ≤ i := by
  have h := List.length_filter_le (inB lo hi) (es.take i)
  rw [List.length_take] at h
  unfold withB
  omega
set_option maxRecDepth 100000 in
set_option maxHeartbeats 4000000 in
theorem within_any (ao : Option Addr) (n c : Nat) (es : List E) (lo hi : ByteArray) (w : World) (hE : EntsV w ao n es) (hn : n ≤ 1000) :
    Calls Tryd.prog 57 #[.slice ao n c, .string lo, .string hi] w fun e w' => ∃ v', e = .returned v' ∧ w'.ownsRow w.heap.size 54 4 v' (withB lo hi es).length (flatE (withB lo hi es)) ∧ Below w.heap.size w w' := by
  obtain ⟨i0, hi0, hz0, hz1, hz2⟩ := info_parts info23
  have HE : Hid _ := hE
  have HLE : Hid (es.length = n) := hE.1
  have HNN : Hid (n ≤ 1000) := hn
  clear hE hn
  go_enter Tryd.func57, Tryd.ntmps57
  go_wp2
  go_loopw [7, 12] (fun o x wr => ∃ i : Nat, x = .int .i64 i ∧ i ≤ n ∧ wr.ownsRow w.heap.size 54 4 o (withB lo hi (es.take i)).length (flatE (withB lo hi (es.take i))) ∧ Below w.heap.size w wr) (fun _ x _ => n - (intOf x).toNat)
  case atStart => exact ⟨0, rfl, by omega, by simpa [withB, flatE] using World.ownsRow_nil _ _ _ _, Below.refl _ _⟩
  case round =>
    obtain ⟨i, rfl, hil, hown, hbel⟩ := hrel
    have hdl := withB_len lo hi es i
    have HSN0 : Hid (i < n → ∀ e, es[i]! = e → withB lo hi (es.take (i + 1)) = withB lo hi (es.take i) ++ (if inB lo hi e = true then [e] else [])) := fun h e he => withB_snoc lo hi es i (by rw [HLE.out]; exact h) e he
    have HALL : Hid (n ≤ i → withB lo hi es = withB lo hi (es.take i)) := fun h => by rw [List.take_of_length_le (by rw [HLE.out]; exact h)]
    obtain ⟨done, HD⟩ : ∃ d, Hid (withB lo hi (es.take i) = d) := ⟨_, rfl⟩
    rw [HD.out] at hown hdl HSN0 HALL
    obtain ⟨aod, cd, hvd, hEd⟩ := own_entsV hown rfl
    subst hvd
    obtain ⟨dl, HDL⟩ : ∃ d, Hid (done.length = d) := ⟨_, rfl⟩
    rw [HDL.out] at hown hdl
    rw [HDL.out]
    have HO : Hid _ := And.intro hown hbel
    have HDN : Hid (dl ≤ 1000) := by show _ ≤ _; have := HNN.out; omega
    clear hown hbel hEd hdl
    by_cases hlt : i < n
    · have hltz : (i : Int) < (n : Int) := by omega
      obtain ⟨b, off, hao, hEn⟩ := HE.out.2 (by omega)
      have hEr : Ents wr b off es := hEn.below HO.out.2 (Nat.le_refl _)
      obtain ⟨k0, v0, d0, q0, HX⟩ : ∃ k0 v0 d0 q0, Hid (es[i]! = E.mk k0 v0 d0 q0) := ⟨_, _, _, _, rfl⟩
      obtain ⟨c0, c1', c2', c3⟩ := ents_four hEr i (by rw [HLE.out]; omega) HX.out
      subst hao
      have HSN : Hid _ := HSN0.out hlt _ HX.out
      clear hEr HSN0
      go_upto_region 5 with (refine wpList_store_row rfl 54 (.tmp 9) (.tmp 15) rfl wr.heap.size #[.string k0, .string v0, .bool d0, .int .i64 q0] rfl rfl 54 #[.string ⟨#[]⟩, .string ⟨#[]⟩, .bool false, .int .i64 0] (heap_alloc_new wr _) size23 rfl (one4 _ _ _ _) ?_)
      generalize hW : World.setRow _ _ _ = W2
      have HR : Hid _ := stored hW
      have hrow := HR.out.1
      have e0 : W2.cell? ⟨wr.heap.size, 0, none⟩ = some (.string k0) := by rw [cell_of_row _ _ _ _ _ _ hrow]; rfl
      have HB2 : Hid (Below w.heap.size w W2) := HO.out.2.trans (HR.out.2.1.mono HO.out.2.size)
      have HO2 : Hid (W2.ownsRow w.heap.size 54 4 (.slice aod dl cd) dl (flatE done)) := own_below HO.out.1 HR.out.2.1 (Nat.le_refl _)
      have HIB : Hid (∀ x y, decide (cmpS lo k0 ≤ 0) = x → belB k0 hi = y → withB lo hi (es.take (i + 1)) = done ++ (if (x && y) = true then [⟨k0, v0, d0, q0⟩] else [])) := fun x y h1 h2 => by rw [HSN.out]; unfold inB; rw [h1, h2]
      have HNX : Hid ((i : Int) + 1 = ((i + 1 : Nat) : Int) ∧ i + 1 ≤ n) := ⟨by omega, by omega⟩
      have HWI : Hid (wrap64 ((i : Int) + 1) = ((i + 1 : Nat) : Int)) := by show _ = _; have := HNN.out; unfold wrap64; omega
      obtain ⟨bb, HBB⟩ : ∃ b, Hid (belB k0 hi = b) := ⟨_, rfl⟩
      have HBE : Hid (∀ V, Calls Tryd.prog 48 #[.string k0, .string hi] V fun e w' => e = .returned (.bool bb) ∧ Below V.heap.size V w') := fun V => by rw [← HBB.out]; exact below_any k0 hi V
      have HWS : Hid (W2.heap.size = wr.heap.size + 1) := HR.out.2.2
      clear hW hrow HSN c0 c1' c2' c3
      rcases le_cases lo k0 with ⟨a1, a3⟩ | ⟨a1, a2, a3⟩ | ⟨a1, a2, a3⟩
      · have H3 : Hid _ := a3
        clear a3
        go_wp2_with fail
        refine (HBE.out W2).mono ?_
        rintro e w3 ⟨rfl, hb3⟩
        have HB3 : Hid (Below w.heap.size w w3 ∧ w3.heap[wr.heap.size]? = some (.cells #[.string k0, .string v0, .bool d0, .int .i64 q0] 54 (0, 0)) ∧ w.heap.size ≤ w3.heap.size) := ⟨HB2.out.trans (hb3.mono HB2.out.size), (hb3.block _ (by rw [HWS.out]; omega)).trans HR.out.1, (HB2.out.trans (hb3.mono HB2.out.size)).size⟩
        have HO3 : Hid (w3.ownsRow w.heap.size 54 4 (.slice aod dl cd) dl (flatE done)) := own_below HO2.out hb3 (Nat.le_refl _)
        clear e0 hb3 HBE
        cases bb with
        | false =>
          have HS2 : Hid _ := HIB.out _ _ H3.out HBB.out
          go_wp2
          go_roundw
          case rel => exact ⟨i + 1, by rw [HWI.out], HNX.out.2, by rw [HS2.out, if_neg (by simp), List.append_nil, HDL.out]; exact HO3.out, HB3.out.1⟩
          case measure => (rw [HWI.out]; simp only [intOf]; omega)
        | true =>
          have HS2 : Hid _ := HIB.out _ _ H3.out HBB.out
          have HOA : Hid ((w3.alloc (Obj.cells #[.string k0, .string v0, .bool d0, .int .i64 q0] 54)).ownsRow w.heap.size 54 4 (.slice aod dl cd) dl (flatE done)) := HO3.out.alloc _
          have HCA : Hid (∀ j u, (encE (E.mk k0 v0 d0 q0))[j]? = some u → (w3.alloc (Obj.cells #[.string k0, .string v0, .bool d0, .int .i64 q0] 54)).cell? ((⟨w3.heap.size, 0, none⟩ : Addr).add j) = some u) := ent_laid w3 k0 v0 d0 q0
          have HBA : Hid (w.heap.size ≤ (w3.alloc (Obj.cells #[.string k0, .string v0, .bool d0, .int .i64 q0] 54)).heap.size) := by show _ ≤ _; have := HB3.out.2.2; simp; omega
          go_wp2_with (first | (refine wpList_load_row rfl 54 (.tmp 9) rfl wr.heap.size rfl 54 #[.string k0, .string v0, .bool d0, .int .i64 q0] (0, 0) _ HB3.out.2.1 Tryd.underlying54 rfl size23 ?_) | (at_builtin; refine wpList_append_own _ rfl (.tmp 26) (.tmp 28) 22 rfl w.heap.size 54 i0 _ 4 48 Tryd.underlying22 hi0 hz0 hz1 hz2 rfl (by decide) _ dl (flatE done) rfl HOA.out ⟨w3.heap.size, 0, none⟩ 1 1 (encE (E.mk k0 v0 d0 q0)) rfl rfl HCA.out (encE_one _) (by have := HDN.out; unfold maxLen; omega) (by have := HDN.out; omega) HBA.out ?_))
          intro v' w6 hown6 hgr6 _
          have hbel6 : Below w.heap.size w w6 := (HB3.out.1.alloc HB3.out.1.size _).trans ((Below.refl _ _).grown hgr6 HBA.out (fun k hk => (HOA.out.lt k hk).1))
          clear hgr6 HOA HCA
          have HN : Hid _ := And.intro hown6 hbel6
          clear hown6 hbel6
          go_wp2
          go_roundw
          case rel =>
            refine ⟨i + 1, by rw [HWI.out], HNX.out.2, ?_, HN.out.2⟩
            rw [HS2.out, if_pos (by simp), flatE_append, List.length_append, HDL.out]
            simpa [flatE] using HN.out.1
          case measure => (rw [HWI.out]; simp only [intOf]; omega)
      · have H3 : Hid _ := a3
        clear a3
        go_wp2_with fail
        refine (HBE.out W2).mono ?_
        rintro e w3 ⟨rfl, hb3⟩
        have HB3 : Hid (Below w.heap.size w w3 ∧ w3.heap[wr.heap.size]? = some (.cells #[.string k0, .string v0, .bool d0, .int .i64 q0] 54 (0, 0)) ∧ w.heap.size ≤ w3.heap.size) := ⟨HB2.out.trans (hb3.mono HB2.out.size), (hb3.block _ (by rw [HWS.out]; omega)).trans HR.out.1, (HB2.out.trans (hb3.mono HB2.out.size)).size⟩
        have HO3 : Hid (w3.ownsRow w.heap.size 54 4 (.slice aod dl cd) dl (flatE done)) := own_below HO2.out hb3 (Nat.le_refl _)
        clear e0 hb3 HBE
        cases bb with
        | false =>
          have HS2 : Hid _ := HIB.out _ _ H3.out HBB.out
          go_wp2
          go_roundw
          case rel => exact ⟨i + 1, by rw [HWI.out], HNX.out.2, by rw [HS2.out, if_neg (by simp), List.append_nil, HDL.out]; exact HO3.out, HB3.out.1⟩
          case measure => (rw [HWI.out]; simp only [intOf]; omega)
        | true =>
          have HS2 : Hid _ := HIB.out _ _ H3.out HBB.out
          have HOA : Hid ((w3.alloc (Obj.cells #[.string k0, .string v0, .bool d0, .int .i64 q0] 54)).ownsRow w.heap.size 54 4 (.slice aod dl cd) dl (flatE done)) := HO3.out.alloc _
          have HCA : Hid (∀ j u, (encE (E.mk k0 v0 d0 q0))[j]? = some u → (w3.alloc (Obj.cells #[.string k0, .string v0, .bool d0, .int .i64 q0] 54)).cell? ((⟨w3.heap.size, 0, none⟩ : Addr).add j) = some u) := ent_laid w3 k0 v0 d0 q0
          have HBA : Hid (w.heap.size ≤ (w3.alloc (Obj.cells #[.string k0, .string v0, .bool d0, .int .i64 q0] 54)).heap.size) := by show _ ≤ _; have := HB3.out.2.2; simp; omega
          go_wp2_with (first | (refine wpList_load_row rfl 54 (.tmp 9) rfl wr.heap.size rfl 54 #[.string k0, .string v0, .bool d0, .int .i64 q0] (0, 0) _ HB3.out.2.1 Tryd.underlying54 rfl size23 ?_) | (at_builtin; refine wpList_append_own _ rfl (.tmp 26) (.tmp 28) 22 rfl w.heap.size 54 i0 _ 4 48 Tryd.underlying22 hi0 hz0 hz1 hz2 rfl (by decide) _ dl (flatE done) rfl HOA.out ⟨w3.heap.size, 0, none⟩ 1 1 (encE (E.mk k0 v0 d0 q0)) rfl rfl HCA.out (encE_one _) (by have := HDN.out; unfold maxLen; omega) (by have := HDN.out; omega) HBA.out ?_))
          intro v' w6 hown6 hgr6 _
          have hbel6 : Below w.heap.size w w6 := (HB3.out.1.alloc HB3.out.1.size _).trans ((Below.refl _ _).grown hgr6 HBA.out (fun k hk => (HOA.out.lt k hk).1))
          clear hgr6 HOA HCA
          have HN : Hid _ := And.intro hown6 hbel6
          clear hown6 hbel6
          go_wp2
          go_roundw
          case rel =>
            refine ⟨i + 1, by rw [HWI.out], HNX.out.2, ?_, HN.out.2⟩
            rw [HS2.out, if_pos (by simp), flatE_append, List.length_append, HDL.out]
            simpa [flatE] using HN.out.1
          case measure => (rw [HWI.out]; simp only [intOf]; omega)
      · have H3 : Hid _ := a3
        have HS2 : Hid _ := HIB.out _ _ H3.out HBB.out
        clear a3
        go_wp2
        go_roundw
        case rel => exact ⟨i + 1, by rw [HWI.out], HNX.out.2, by rw [HS2.out, if_neg (by simp), List.append_nil, HDL.out]; exact HO2.out, HB2.out⟩
        case measure => (rw [HWI.out]; simp only [intOf]; omega)
    · have hltz : ¬ (i : Int) < (n : Int) := by omega
      have HF : Hid _ := HALL.out (by omega)
      go_wp2
      go_ret
      exact ⟨_, rfl, by rw [HF.out, HDL.out]; exact HO.out.1, HO.out.2⟩
end Go.Proofs.YtecacjddggljgaaDoor
namespace Go.Proofs.YtecacjddggljgaaDoor
open Go.RowKit Go.Sort Go.Shelf
set_option linter.unusedSectionVars false
variable [Inhabited E] [DecidableEq E]
def soleAll (bs : List (List UInt8)) : Option (List E) := if bs.all (fun b => (soleOf b).isSome) = true then some (bs.filterMap soleOf) else none
def rowIs (base : Nat) (w : World) (v : Value) : Option (List E) → Prop
  | some es => w.ownsRow base 54 4 v es.length (flatE es)
  | none => v = .slice none 0 0
theorem soles_snoc (bs : List (List UInt8)) (i : Nat) (b : List UInt8) (h : bs[i]? = some b) : (bs.take (i + 1)).filterMap soleOf = (bs.take i).filterMap soleOf ++ (match soleOf b with | some x => [x] | none => []) := by
  rw [List.take_add_one, h, List.filterMap_append]
  congr 1
  simp only [Option.toList_some]
  cases hs : soleOf b with
  | none => rw [List.filterMap_cons_none hs]; rfl
  | some x => rw [List.filterMap_cons_some hs]; rfl
theorem soles_all (bs : List (List UInt8)) (i : Nat) (b : List UInt8) (h : bs[i]? = some b) (ha : (bs.take i).all (fun b => (soleOf b).isSome) = true) (hs : (soleOf b).isSome = true) : (bs.take (i + 1)).all (fun b => (soleOf b).isSome) = true := by
  rw [List.take_add_one, h, List.all_append, ha, Option.toList_some, List.all_cons, hs]; rfl
theorem soles_no (bs : List (List UInt8)) (i : Nat) (b : List UInt8) (h : bs[i]? = some b) (hs : soleOf b = none) : soleAll bs = none := by
  unfold soleAll
  rw [if_neg]
  intro ha
  rw [List.all_eq_true] at ha
  have := ha b (List.mem_of_getElem? h)
  rw [hs] at this
  cases this
set_option maxRecDepth 100000 in
set_option maxHeartbeats 4000000 in
theorem soles_any (qo : Option Addr) (n c : Nat) (ls : List Sm.LV) (w : World) (hL : Sm.LeavesV w qo n c ls) (hcap : ∀ p ∈ ls, p.n ≤ p.c ∧ p.c ≤ 9223372036854775807) (hn : n ≤ 1000) :
    Calls Tryd.prog 55 #[.slice qo n c] w fun e w' => ∃ v', e = .returned (.tuple #[v', .bool (soleAll (Sm.bytesL ls)).isSome]) ∧ rowIs w.heap.size w' v' (soleAll (Sm.bytesL ls)) ∧ Below w.heap.size w w' := by
  obtain ⟨i0, hi0, hz0, hz1, hz2⟩ := info_parts info23
  have HL : Hid _ := hL
  have HLE : Hid (ls.length = n) := hL.1
  have HNN : Hid (n ≤ 1000) := hn
  have HCP : Hid _ := hcap
  obtain ⟨BS, HBS⟩ : ∃ b, Hid (Sm.bytesL ls = b) := ⟨_, rfl⟩
  have HBI : Hid (∀ (i : Nat) (p : Sm.LV), ls[i]? = some p → BS[i]? = some p.bs) := fun i p h => by rw [← HBS.out]; unfold Sm.bytesL; rw [List.getElem?_map, h]; rfl
  have HBL : Hid (BS.length = n) := by show _ = _; rw [← HBS.out]; unfold Sm.bytesL; rw [List.length_map, HLE.out]
  rw [HBS.out]
  clear hL hn hcap
  go_enter Tryd.func55, Tryd.ntmps55
  go_wp2
  go_loopw [4, 11] (fun o x wr => ∃ i : Nat, x = .int .i64 i ∧ i ≤ n ∧ (BS.take i).all (fun b => (soleOf b).isSome) = true ∧ wr.ownsRow w.heap.size 54 4 o ((BS.take i).filterMap soleOf).length (flatE ((BS.take i).filterMap soleOf)) ∧ Below w.heap.size w wr) (fun _ x _ => n - (intOf x).toNat)
  case atStart => exact ⟨0, rfl, by omega, by simp, by simpa [flatE] using World.ownsRow_nil _ _ _ _, Below.refl _ _⟩
  case round =>
    obtain ⟨i, rfl, hil, hall, hown, hbel⟩ := hrel
    have hdl : ((BS.take i).filterMap soleOf).length ≤ i := by
      have h1 := List.length_filterMap_le soleOf (BS.take i)
      rw [List.length_take] at h1
      omega
    have HSN0 : Hid (∀ p : Sm.LV, ls[i]? = some p → (BS.take (i + 1)).filterMap soleOf = (BS.take i).filterMap soleOf ++ (match soleOf p.bs with | some x => [x] | none => [])) := fun p hp => soles_snoc BS i _ (HBI.out i p hp)
    have HNO : Hid (∀ p : Sm.LV, ls[i]? = some p → soleOf p.bs = none → soleAll BS = none) := fun p hp hs => soles_no BS i _ (HBI.out i p hp) hs
    have HYE : Hid (∀ p : Sm.LV, ls[i]? = some p → (soleOf p.bs).isSome = true → (BS.take (i + 1)).all (fun b => (soleOf b).isSome) = true) := fun p hp hs => soles_all BS i _ (HBI.out i p hp) hall hs
    have HALL : Hid (n ≤ i → soleAll BS = some ((BS.take i).filterMap soleOf)) := fun h => by
      have h1 : BS.take i = BS := List.take_of_length_le (by rw [HBL.out]; exact h)
      rw [h1] at hall ⊢
      unfold soleAll
      rw [if_pos hall]
    obtain ⟨done, HD⟩ : ∃ d, Hid ((BS.take i).filterMap soleOf = d) := ⟨_, rfl⟩
    rw [HD.out] at hown hdl HSN0 HALL
    obtain ⟨aod, cd, hvd, hEd⟩ := own_entsV hown rfl
    subst hvd
    obtain ⟨dl, HDL⟩ : ∃ d, Hid (done.length = d) := ⟨_, rfl⟩
    rw [HDL.out] at hown hdl
    rw [HDL.out]
    have HO : Hid _ := And.intro hown hbel
    have HDN : Hid (dl ≤ 1000) := by show _ ≤ _; have := HNN.out; omega
    clear hown hbel hEd hdl hall
    by_cases hlt : i < n
    · have hltz : (i : Int) < (n : Int) := by omega
      obtain ⟨b, off, hao, hLA⟩ := HL.out.2.2.2 (by omega)
      subst hao
      obtain ⟨⟨po, pn, pc, pbs⟩, hp⟩ : ∃ p, ls[i]? = some p := ⟨_, List.getElem?_eq_getElem (by rw [HLE.out]; omega)⟩
      have hLW : Sm.LeavesAt wr b off ls := hLA.below HO.out.2 (Nat.le_refl _)
      obtain ⟨c0, hbs, -, -⟩ := hLW i _ hp
      have hcc := HCP.out _ (List.mem_of_getElem? hp)
      have HSN : Hid _ := HSN0.out _ hp
      have HNO1 : Hid _ := HNO.out _ hp
      have HYE1 : Hid _ := HYE.out _ hp
      have HSO : Hid _ := sole_any po pn pc pbs wr hbs hcc.1 hcc.2
      clear hLW hp HSN0 HNO HYE hLA hbs hcc HL HBI
      go_upto_region 5 with fail
      have HWI : Hid (wrap64 ((i : Int) + 1) = ((i + 1 : Nat) : Int)) := by show _ = _; have := HNN.out; unfold wrap64; omega
      have HNX : Hid (i + 1 ≤ n) := by show _ ≤ _; omega
      go_wp2_with fail
      refine Calls.mono HSO.out ?_
      rintro e w1 ⟨rfl, hb1⟩
      have HB1 : Hid (Below w.heap.size w w1 ∧ w.heap.size ≤ w1.heap.size) := ⟨HO.out.2.trans (hb1.mono HO.out.2.size), (HO.out.2.trans (hb1.mono HO.out.2.size)).size⟩
      have HO1 : Hid (w1.ownsRow w.heap.size 54 4 (.slice aod dl cd) dl (flatE done)) := own_below HO.out.1 hb1 (Nat.le_refl _)
      clear c0 hb1 HSO
      obtain ⟨r, HR⟩ : ∃ r, Hid (soleOf pbs = r) := ⟨_, rfl⟩
      rw [HR.out] at HSN HNO1 HYE1
      simp only [HR.out]
      cases r with
      | none =>
        have HF : Hid _ := HNO1.out rfl
        clear HNO1 HYE1 HSN
        simp only [soleV, encE]
        go_upto_region 6 with (refine wpList_store_row rfl 54 (.tmp 7) (.tmp 18) rfl w1.heap.size #[.string zeroE.key, .string zeroE.value, .bool zeroE.del, .int .i64 zeroE.seq] rfl rfl 54 #[.string ⟨#[]⟩, .string ⟨#[]⟩, .bool false, .int .i64 0] (heap_alloc_new w1 _) size23 rfl (one4 _ _ _ _) ?_)
        generalize hW : World.setRow _ _ _ = W2
        have HR2 : Hid _ := stored hW
        have HB2 : Hid (Below w.heap.size w W2) := HB1.out.1.trans (HR2.out.2.1.mono HB1.out.1.size)
        clear hW
        go_wp2
        go_ret2
        refine ⟨.slice none 0 0, ?_, ?_, HB2.out⟩
        · rw [HF.out]; rfl
        · rw [HF.out]; rfl
      | some x =>
        obtain ⟨k0, v0, d0, q0⟩ := x
        have HY : Hid _ := HYE1.out rfl
        have HS2 : Hid ((BS.take (i + 1)).filterMap soleOf = done ++ [⟨k0, v0, d0, q0⟩]) := HSN.out
        clear HNO1 HYE1 HSN
        simp only [soleV, encE]
        go_upto_region 6 with (refine wpList_store_row rfl 54 (.tmp 7) (.tmp 18) rfl w1.heap.size #[.string k0, .string v0, .bool d0, .int .i64 q0] rfl rfl 54 #[.string ⟨#[]⟩, .string ⟨#[]⟩, .bool false, .int .i64 0] (heap_alloc_new w1 _) size23 rfl (one4 _ _ _ _) ?_)
        generalize hW : World.setRow _ _ _ = W2
        have HR2 : Hid _ := stored hW
        have HB2 : Hid (Below w.heap.size w W2) := HB1.out.1.trans (HR2.out.2.1.mono HB1.out.1.size)
        have HO2 : Hid (W2.ownsRow w.heap.size 54 4 (.slice aod dl cd) dl (flatE done)) := own_below HO1.out HR2.out.2.1 (Nat.le_refl _)
        clear hW
        have HOA : Hid ((W2.alloc (Obj.cells #[.string k0, .string v0, .bool d0, .int .i64 q0] 54)).ownsRow w.heap.size 54 4 (.slice aod dl cd) dl (flatE done)) := HO2.out.alloc _
        have HCA : Hid (∀ j u, (encE (E.mk k0 v0 d0 q0))[j]? = some u → (W2.alloc (Obj.cells #[.string k0, .string v0, .bool d0, .int .i64 q0] 54)).cell? ((⟨W2.heap.size, 0, none⟩ : Addr).add j) = some u) := ent_laid W2 k0 v0 d0 q0
        have HBA : Hid (w.heap.size ≤ (W2.alloc (Obj.cells #[.string k0, .string v0, .bool d0, .int .i64 q0] 54)).heap.size) := by show _ ≤ _; have := HB2.out.size; simp; omega
        go_wp2_with (first | (refine wpList_load_row rfl 54 (.tmp 7) rfl w1.heap.size rfl 54 #[.string k0, .string v0, .bool d0, .int .i64 q0] (0, 0) _ HR2.out.1 Tryd.underlying54 rfl size23 ?_) | (at_builtin; refine wpList_append_own _ rfl (.tmp 22) (.tmp 24) 22 rfl w.heap.size 54 i0 _ 4 48 Tryd.underlying22 hi0 hz0 hz1 hz2 rfl (by decide) _ dl (flatE done) rfl HOA.out ⟨W2.heap.size, 0, none⟩ 1 1 (encE (E.mk k0 v0 d0 q0)) rfl rfl HCA.out (encE_one _) (by have := HDN.out; unfold maxLen; omega) (by have := HDN.out; omega) HBA.out ?_))
        intro v' w6 hown6 hgr6 _
        have hbel6 : Below w.heap.size w w6 := (HB2.out.alloc HB2.out.size _).trans ((Below.refl _ _).grown hgr6 HBA.out (fun k hk => (HOA.out.lt k hk).1))
        clear hgr6 HOA HCA
        have HN : Hid _ := And.intro hown6 hbel6
        clear hown6 hbel6
        go_wp2
        go_roundw
        case rel =>
          refine ⟨i + 1, by rw [HWI.out], HNX.out, HY.out, ?_, HN.out.2⟩
          rw [HS2.out, flatE_append, List.length_append, HDL.out]
          simpa [flatE] using HN.out.1
        case measure => (rw [HWI.out]; simp only [intOf]; omega)
    · have hltz : ¬ (i : Int) < (n : Int) := by omega
      have HF : Hid _ := HALL.out (by omega)
      go_wp2
      go_ret2
      refine ⟨.slice aod dl cd, ?_, ?_, HO.out.2⟩
      · rw [HF.out]; rfl
      · rw [HF.out]; show World.ownsRow _ _ _ _ _ _ _; rw [HDL.out]; exact HO.out.1
end Go.Proofs.YtecacjddggljgaaDoor
namespace Go.Proofs.YtecacjddggljgaaDoor
open Go.RowKit Go.Sort Go.Shelf
set_option linter.unusedSectionVars false
variable [Inhabited E] [DecidableEq E]
def spanM (frm n : Int) (lo hi : ByteArray) : Option (List E) → Option (List E)
  | none => none
  | some es => if sortedB es && (!(decide (0 < frm) && decide (cmpS lo es[0]!.key ≤ 0)) && !(decide (frm + es.length < n) && belB es[es.length - 1]!.key hi)) then some (withB lo hi es) else none
def spanO (z : Int) (root : List UInt8) (n : Int) (k1 k2 lo hi : ByteArray) (S : Spn) : Option (List E) := if ovB k1 k2 lo hi && Sm.crB z root n S.frm S.ls S.ds then spanM S.frm n lo hi (soleAll (Sm.bytesL S.ls)) else none
theorem bytes_part (ls : List Sm.LV) (x y : Nat) : Sm.bytesL (Sm.partL ls x y) = ((Sm.bytesL ls).drop x).take (y - x) := by
  unfold Sm.partL
  rw [Sm.bytesL_take, Sm.bytesL_drop]
theorem fillF_bytes (z : Int) (l1 l2 : List Sm.LV) (h : Sm.bytesL l1 = Sm.bytesL l2) (c d : Nat) : ∀ (f a b : Nat) (ds : List (List UInt8)), Sm.fillF z l1 c d f a b ds = Sm.fillF z l2 c d f a b ds
  | 0, _, _, _ => rfl
  | f + 1, a, b, ds => by
    simp only [Sm.fillF]
    rw [fillF_bytes z l1 l2 h c d f, fillF_bytes z l1 l2 h c d f, bytes_part, bytes_part, h]
theorem soles_map : ∀ (es : List E), (∀ e ∈ es, soleOf (bytesB e) = some e) → (es.map bytesB).filterMap soleOf = es
  | [], _ => rfl
  | e :: r, h => by
    rw [List.map_cons, List.filterMap_cons_some (h e (List.mem_cons_self ..)), soles_map r (fun x hx => h x (List.mem_cons_of_mem _ hx))]
theorem soles_right (es : List E) (h : es.all rightB = true) : soleAll (es.map bytesB) = some es := by
  have h1 : ∀ e ∈ es, soleOf (bytesB e) = some e := fun e he => sole_bytes (List.all_eq_true.1 h e he)
  unfold soleAll
  rw [if_pos]
  · congr 1
    exact soles_map es h1
  · rw [List.all_map, List.all_eq_true]
    intro e he
    show (soleOf (bytesB e)).isSome = true
    rw [h1 e he]; rfl
theorem from_lo {es : List E} {lo : ByteArray} (hks : Ks es) (i : Nat) (hi : i < fromN lo es) : cmpS es[i]!.key lo < 0 := by
  have hb := belowN_le lo es
  unfold fromN at hi
  exact (ks_place lo hks i (by omega)).2 (by omega)
theorem to_hi {es : List E} {hi : ByteArray} (hks : Ks es) (i : Nat) (h1 : toN hi es ≤ i + 1) (h2 : i < es.length) (h3 : toN hi es < es.length) : belB es[i]!.key hi = false := by
  unfold toN endN at h1 h3
  by_cases he : hi = ByteArray.empty
  · rw [if_pos he] at h3; omega
  · rw [if_neg he] at h1 h3
    unfold belB
    rw [decide_eq_false he, Bool.false_or, decide_eq_false_iff_not]
    intro hc
    have := (ks_place hi hks i h2).1 hc
    omega
theorem part_eq (es : List E) (x y : Nat) (hxy : x ≤ y) : es = es.take x ++ ((es.drop x).take (y - x) ++ es.drop y) := by
  have h1 : es.drop y = (es.drop x).drop (y - x) := by rw [List.drop_drop]; congr 1; omega
  rw [h1, List.take_append_drop, List.take_append_drop]
theorem with_part {es : List E} {lo hi : ByteArray} (hks : Ks es) (hxy : fromN lo es < toN hi es) (hy : toN hi es ≤ es.length) : withB lo hi ((es.drop (fromN lo es)).take (toN hi es - fromN lo es)) = withB lo hi es := by
  have h0 := part_eq es (fromN lo es) (toN hi es) (by omega)
  have h1 : withB lo hi (es.take (fromN lo es)) = [] := by
    unfold withB
    rw [List.filter_eq_nil_iff]
    intro e he
    obtain ⟨i, hi1, rfl⟩ := List.mem_iff_getElem.1 he
    rw [List.length_take] at hi1
    have hc := from_lo (lo := lo) hks i (by omega)
    rw [getElem!_pos es i (by omega)] at hc
    rw [List.getElem_take]
    unfold inB
    rw [decide_eq_false (fun h => by have := (cmpS_ord.anti _ _).1 hc; omega)]
    simp
  have h2 : withB lo hi (es.drop (toN hi es)) = [] := by
    unfold withB
    rw [List.filter_eq_nil_iff]
    intro e he
    obtain ⟨i, hi1, rfl⟩ := List.mem_iff_getElem.1 he
    rw [List.length_drop] at hi1
    have hc := to_hi (hi := hi) hks (toN hi es + i) (by omega) (by omega) (by omega)
    rw [getElem!_pos es _ (by omega)] at hc
    rw [List.getElem_drop]
    unfold inB
    rw [hc]
    simp
  conv => rhs; rw [h0]
  unfold withB at *
  rw [List.filter_append, List.filter_append, h1, h2, List.nil_append, List.append_nil]
theorem ks_part {es : List E} (h : Ks es) (x m : Nat) : Ks ((es.drop x).take m) := (h.sublist (List.drop_sublist _ _)).sublist (List.take_sublist _ _)
theorem span_bytes {z : Int} {es : List E} {ls : List Sm.LV} {x y : Nat} {S : Spn} (hb : Sm.bytesL ls = es.map bytesB) (h : spanIs z ls x y S) : Sm.bytesL S.ls = ((es.drop x).take (y - x)).map bytesB := by
  rw [h.2.1, bytes_part, hb, List.map_take, List.map_drop]
theorem span_holds {z : Int} {es : List E} {ls : List Sm.LV} {x y : Nat} {S : Spn} (hn : es.length ≤ 1000) (hb : Sm.bytesL ls = es.map bytesB) (hxy : x < y) (hy : y ≤ es.length) (h : spanIs z ls x y S) : Sm.crB z (Sm.rootD z (es.map bytesB)) (es.length : Int) S.frm S.ls S.ds = true := by
  have hl : ls.length = es.length := by
    have := congrArg List.length hb
    simpa [Sm.bytesL] using this
  have hsl : S.ls.length = y - x := by
    have h1 := congrArg List.length h.2.1
    rw [Sm.bytesL_len, Sm.bytesL_len, Sm.partL_len _ _ _ (by omega)] at h1
    exact h1
  have hrd : Sm.rangeD z ls (x : Int) (y : Int) = Sm.besideD z ls (Sm.outL 0 ls.length x y) := by
    unfold Sm.rangeD
    rw [if_pos (by omega), Int.toNat_natCast, Int.toNat_natCast]
  have hfr := Sm.fill_range z ls x y hxy (by omega) (by omega)
  unfold Sm.crB
  rw [Bool.and_eq_true, decide_eq_true_eq, beq_iff_eq, h.1, h.2.2, hsl, hrd, Int.toNat_natCast, Int.toNat_natCast, show x + (y - x) = y from by omega, ← hl]
  refine ⟨⟨by omega, by omega, by omega, ?_⟩, ?_⟩
  · unfold Sm.besideD
    rw [List.length_map]
  · rw [fillF_bytes z S.ls (Sm.partL ls x y) h.2.1, hfr, hb]
theorem span_checks {z : Int} {es : List E} {lo hi : ByteArray} {S : Spn} {er : Int} (hf : fitB es = true) (hov : ovB es[0]!.key es[es.length - 1]!.key lo hi = true) (h : proveSpS z es lo hi S er) :
    er = 0 ∧ spanO z (Sm.rootD z (es.map bytesB)) (es.length : Int) es[0]!.key es[es.length - 1]!.key lo hi S = some (withB lo hi es) := by
  unfold proveSpS at h
  rw [if_pos hf, if_pos hov] at h
  obtain ⟨ls, hb, rfl, h⟩ := h
  obtain ⟨hxy, hy⟩ := ov_places hf hov
  have hks := fit_ks hf
  have hn := (fit_len hf).2
  refine ⟨rfl, ?_⟩
  unfold spanO
  rw [hov, span_holds (by omega) hb hxy hy h, span_bytes hb h, soles_right _ (by
    rw [List.all_eq_true]
    intro e he
    exact List.all_eq_true.1 (fit_all hf) e (List.mem_of_mem_drop (List.mem_of_mem_take he)))]
  have hpl : ((es.drop (fromN lo es)).take (toN hi es - fromN lo es)).length = toN hi es - fromN lo es := by
    rw [List.length_take, List.length_drop]; omega
  have hg : ∀ i, i < toN hi es - fromN lo es → ((es.drop (fromN lo es)).take (toN hi es - fromN lo es))[i]! = es[fromN lo es + i]! := fun i hi' => by
    rw [getElem!_pos _ i (by rw [hpl]; exact hi'), getElem!_pos es _ (by omega), List.getElem_take, List.getElem_drop]
  have hw := with_part (lo := lo) (hi := hi) hks hxy hy
  have hso : sortedB ((es.drop (fromN lo es)).take (toN hi es - fromN lo es)) = true := sortedB_ks.2 (ks_part hks _ _)
  simp only [Bool.and_self, if_true, spanM]
  rw [hw, hso, hpl, hg 0 (by omega), hg _ (by omega : toN hi es - fromN lo es - 1 < toN hi es - fromN lo es), h.1]
  have g1 : (decide ((0 : Int) < (fromN lo es : Nat)) && decide (cmpS lo es[fromN lo es + 0]!.key ≤ 0)) = false := by
    by_cases h0 : 0 < fromN lo es
    · have hc := (ks_place lo hks (fromN lo es) (by omega)).2 (by unfold fromN at h0 ⊢; omega)
      have hc2 : ¬ cmpS lo es[fromN lo es]!.key ≤ 0 := fun h => by have := (cmpS_ord.anti _ _).1 hc; omega
      rw [Nat.add_zero, decide_eq_false hc2, Bool.and_false]
    · rw [decide_eq_false (by omega), Bool.false_and]
  have g2 : (decide (((fromN lo es : Nat) : Int) + ((toN hi es - fromN lo es : Nat) : Int) < (es.length : Nat)) && belB es[fromN lo es + (toN hi es - fromN lo es - 1)]!.key hi) = false := by
    by_cases h0 : toN hi es < es.length
    · rw [to_hi hks _ (by omega) (by omega) h0, Bool.and_false]
    · rw [decide_eq_false (by omega), Bool.false_and]
  rw [g1, g2]
  rfl
end Go.Proofs.YtecacjddggljgaaDoor

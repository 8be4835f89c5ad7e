/-
  What block.Bytes answers: a contract over this translation. What block.Bytes answers: a contract over this translation. What marlstonelaw04's few and shown answer: contracts over this translation.
-/
import Derived.Test.YtecacjddggljgaaDoorPartAJ
import Derived.Deep.DeepCutAuto
namespace Go.Proofs.YtecacjddggljgaaDoor
open Go.RowKit Go.Sort Go.Shelf
set_option linter.unusedSectionVars false
variable [Inhabited E] [DecidableEq E]
set_option maxRecDepth 100000 in
/-- 'append(own, more...)': where the new row lies. -/
theorem run_append_split (w : World) (base : Nat) (ty : TypeId) (v : Value) (n : Nat) (bs : List UInt8) (hown : w.ownsRow base 5 1 v n (cellsOf bs)) (hbase : base ≤ w.heap.size)
    (ad : Addr) (m c : Nat) (ms : List UInt8) (hm : Bytes w (some ad) m ms) (hp : 0 < m) (hb : n + m ≤ 140737488355328) :
    ∃ v' w', (Builtin.append_ #[27, 27] ty #[v, .slice (some ad) m c]).run Tryd.prog w = .ok v' w' ∧ w'.ownsRow base 5 1 v' (bs ++ ms).length (cellsOf (bs ++ ms)) ∧ w.grownBy w' v.ownBlock ∧
      (v'.ownBlock = v.ownBlock ∨ ∃ g, v'.ownBlock = some g ∧ w.heap.size ≤ g) := by
  obtain ⟨i0, hi, hz0, hz1, hz2⟩ := info_parts info5
  have hn : n = bs.length := by have := hown.1; rw [cellsOf_length] at this; omega
  have hml := hm.1
  have hnews : ∀ j u, (cellsOf ms)[j]? = some u → w.cell? (ad.add j) = some u := by
    intro j u hu
    obtain ⟨c, hc, rfl⟩ := cellsOf_at hu
    obtain ⟨y, hy, hcell⟩ := hm.2 j c hc
    cases hy
    exact hcell
  have hl : (cellsOf ms).length = m * 1 := by rw [cellsOf_length]; omega
  obtain ⟨v', w', hr, h2, h3, h4⟩ := run_append_own (P := Tryd.prog) w base 27 ty 5 i0 (.int .u8 0) 1 1 Tryd.underlying27 hi hz0 hz1 hz2 rfl (by decide) v n (cellsOf bs) hown ad m c (cellsOf ms) hl hnews (cellsOf_one ms) (by unfold maxLen; omega) (by omega) hbase
  refine ⟨v', w', hr, by rw [List.length_append, hml, ← hn, cellsOf_append]; exact h2, h3, ?_⟩
  rcases hown.2 with ⟨rfl, h0⟩ | ⟨g, cap, cur, rfl, hbg, hg, hnc, hcm, hcs, htake⟩
  · right
    have hr2 := run_append_nil (P := Tryd.prog) w 27 ty 5 i0 (.int .u8 0) Tryd.underlying27 hi hz0 ad m c (cellsOf ms) (by rw [hz1]; exact hl) hnews hp (by omega) (by rw [hz2]; omega)
    rw [hr2] at hr
    injection hr with e1 e2
    subst e1
    exact ⟨_, rfl, Nat.le_refl _⟩
  · by_cases hroom : n + m ≤ cap
    · left
      have hr2 := run_append_room (P := Tryd.prog) w 27 ty 5 i0 Tryd.underlying27 hi g n cap cur hg ad m c (cellsOf ms) (by rw [hz1]; exact hl) hnews (cellsOf_one ms) hroom (by rw [hz1, hl, hcs]; omega)
      rw [hr2] at hr
      injection hr with e1 e2
      subst e1
      rfl
    · right
      have holds : ∀ j u, (cellsOf bs)[j]? = some u → w.cell? ((⟨g, 0, none⟩ : Addr).add j) = some u := hown.cells (g := g) rfl
      have hr2 := run_append_grow (P := Tryd.prog) w 27 ty 5 i0 (.int .u8 0) Tryd.underlying27 hi hz0 ⟨g, 0, none⟩ n cap (cellsOf bs) (by rw [hz1]; exact hown.1) holds ad m c (cellsOf ms) (by rw [hz1]; exact hl) hnews (by omega) (by omega) (growslice_fits (by omega) (by rw [hz2]; omega))
      rw [hr2] at hr
      injection hr with e1 e2
      subst e1
      exact ⟨_, rfl, Nat.le_refl _⟩
theorem wpList_append_split {ops : Array Oper} {rest : List Oper} {o : Oper} {a : Act} {Q : Exit → Act → World → Prop} (w : World)
    (hg : o.guard = none) (s x : Operand) (hop : o.op = Op.call { callee := Callee.builtin Builtin.append, args := #[s, x], argTypes := #[27, 27] })
    (base : Nat) (v : Value) (n : Nat) (bs : List UInt8) (hs : a.eval s = v) (hown : w.ownsRow base 5 1 v n (cellsOf bs)) (hbase : base ≤ w.heap.size)
    (ad : Addr) (m c : Nat) (ms : List UInt8) (hx : a.eval x = .slice (some ad) m c) (hm : Bytes w (some ad) m ms) (hp : 0 < m) (hb : n + m ≤ 140737488355328)
    (hK : ∀ v' w', w'.ownsRow base 5 1 v' (bs ++ ms).length (cellsOf (bs ++ ms)) → w.grownBy w' v.ownBlock → (v'.ownBlock = v.ownBlock ∨ ∃ g, v'.ownBlock = some g ∧ w.heap.size ≤ g) → wpList Tryd.prog ops Q rest (a.put o.dst v') w') :
    wpList Tryd.prog ops Q (o :: rest) a w := by
  refine wpList_plain hg fun K hK2 => ?_
  obtain ⟨v', w', hr, h2, h3, h4⟩ := run_append_split w base o.type v n bs hown hbase ad m c ms hm hp hb
  unfold Oper.wp execOp
  simp only [hop, resolve, invoke, builtin, Sem.run_bind, Sem.run_pure, Result.andThen_ok, List.map_toArray, List.map_cons, List.map_nil, hs, hx, hr]
  exact hK2 _ _ (hK v' w' h2 h3 h4)
/-! ### what a block is -/
/-- The key ahead of the i-th entry, where it counts. -/
def aheadK (es : List E) (i : Nat) : ByteArray := if i % 8 = 0 then ⟨#[]⟩ else es[i - 1]!.key
def bodyB (es : List E) : Nat → List UInt8
  | 0 => []
  | i + 1 => bodyB es i ++ pressB (aheadK es i) es[i]!
def placesB (es : List E) : Nat → List UInt8
  | 0 => []
  | i + 1 => if i % 8 = 0 then placesB es i ++ fixB (bodyB es i).length else placesB es i
def blockB (es : List E) : List UInt8 := bodyB es es.length ++ (placesB es es.length ++ fixB ((placesB es es.length).length / 4))
def fitB (es : List E) : Bool := decide (1 ≤ es.length ∧ es.length ≤ 64) && es.all rightB && sortedB es
theorem pressB_len (ah : ByteArray) (e : E) (h : rightB e = true) : (pressB ah e).length ≤ 1300 ∧ 1 ≤ (pressB ah e).length := by
  obtain ⟨h1, h2, qn, h3, h4, h5⟩ := right_parts h
  have a1 := putB_le (comN (strB ah) (strB e.key))
  have a2 := textB_len ((strB e.key).drop (comN (strB ah) (strB e.key)))
  have a3 := textB_len (strB e.value)
  have a4 := putB_le e.seq.toNat
  rw [List.length_drop, strB_length] at a2
  rw [strB_length] at a3
  unfold pressB
  simp only [List.length_append, List.length_cons]
  refine ⟨?_, by omega⟩
  split
  · simp; omega
  · omega
theorem bodyB_len (es : List E) (hr : ∀ e ∈ es, rightB e = true) : ∀ i, i ≤ es.length → (bodyB es i).length ≤ 1300 * i
  | 0, _ => by simp [bodyB]
  | i + 1, h => by
    have h1 := bodyB_len es hr i (by omega)
    have h2 := (pressB_len (aheadK es i) es[i]! (hr _ (by rw [getElem!_pos es i (by omega)]; exact List.getElem_mem _))).1
    rw [bodyB, List.length_append]; omega
theorem placesB_len (es : List E) : ∀ i, (placesB es i).length = 4 * ((i + 7) / 8)
  | 0 => rfl
  | i + 1 => by
    have h1 := placesB_len es i
    rw [placesB]
    split
    · rw [List.length_append, h1]; simp only [fixB, List.length_cons, List.length_nil]; omega
    · rw [h1]; omega
end Go.Proofs.YtecacjddggljgaaDoor
namespace Go.Proofs.YtecacjddggljgaaDoor
open Go.RowKit Go.Sort Go.Shelf
set_option linter.unusedSectionVars false
variable [Inhabited E] [DecidableEq E]
/-- Bytes in a block that an append did not turn. -/
theorem bytes_grown {w w' : World} {ao : Option Addr} {n : Nat} {bs : List UInt8} {row : Option Nat} (h : Bytes w ao n bs) (hg : w.grownBy w' row) (hne : ∀ x, ao = some x → x.block < w.heap.size ∧ row ≠ some x.block) : Bytes w' ao n bs := by
  refine ⟨h.1, fun i c hi => ?_⟩
  obtain ⟨x, hx, hc⟩ := h.2 i c hi
  refine ⟨x, hx, ?_⟩
  obtain ⟨h1, h2⟩ := hne x hx
  rw [← hc]
  have hb : (x.add i).block = x.block := by unfold Addr.add; split <;> rfl
  exact World.cell?_of_block (by rw [hb]; exact hg.block x.block h1 (fun e => h2 e.symm))
theorem own_block {w : World} {base n : Nat} {v : Value} {bs : List UInt8} (h : w.ownsRow base 5 1 v n (cellsOf bs)) : ∀ k, v.ownBlock = some k → base ≤ k ∧ k < w.heap.size := by
  intro k hk
  obtain ⟨ao, cap, rfl, _, _, _, _, _, hx⟩ := own_bytes h
  cases ao with
  | none => cases hk
  | some x => cases hk; exact hx x rfl
theorem take_right {es : List E} (h : es.all rightB = true) (i : Nat) (hi : i < es.length) : rightB es[i]! = true := by
  rw [List.all_eq_true] at h
  exact h _ (by rw [getElem!_pos es i hi]; exact List.getElem_mem hi)
def lastK (es : List E) (i : Nat) : ByteArray := if i = 0 then ⟨#[]⟩ else es[i - 1]!.key
end Go.Proofs.YtecacjddggljgaaDoor
namespace Go.Proofs.YtecacjddggljgaaDoor
open Go.RowKit Go.Sort Go.Shelf
set_option linter.unusedSectionVars false
variable [Inhabited E] [DecidableEq E]
set_option maxRecDepth 100000 in
set_option maxHeartbeats 4000000 in
theorem few4_any (ao : Option Addr) (n c most : Nat) (es : List E) (w : World) (hE : EntsV w ao n es) (hsm : Small es) (hbig : n ≤ 9223372036854775807) (hmost : most ≤ 1000) :
    Calls Tryd.prog 11 #[.slice ao n c, .int .i64 most] w fun e w' => ∃ v', e = .returned v' ∧ w'.ownsRow w.heap.size 54 4 v' (fewS 130 1030 most es).length (flatE (fewS 130 1030 most es)) ∧ Below w.heap.size w w' := by
  obtain ⟨i0, hi, hz0, hz1, hz2⟩ := info_parts info23
  have HE : Hid _ := hE
  clear hE
  go_enter Tryd.func11, Tryd.ntmps11
  go_wp2
  go_loopw [5, 6, 7] (fun o x _ wr => ∃ i : Nat, x = .int .i64 i ∧ i ≤ n ∧ i ≤ most ∧ wr.ownsRow w.heap.size 54 4 o (fewS 130 1030 i es).length (flatE (fewS 130 1030 i es)) ∧ Below w.heap.size w wr) (fun _ x _ _ => n - (intOf x).toNat)
  case atStart => exact ⟨0, rfl, by omega, by omega, World.ownsRow_nil _ _ _ _, Below.refl _ _⟩
  case round =>
    obtain ⟨i, rfl, hin, him, hown, hbel⟩ := hrel
    by_cases hlt : i < n
    · have hltz : (i : Int) < (n : Int) := by omega
      by_cases hlm : i < most
      · have hlmz : (i : Int) < (most : Int) := by omega
        obtain ⟨b, off, hao, hEn⟩ := HE.out.2 (by omega)
        have hln := HE.out.1
        have hEr : Ents wr b off es := hEn.below hbel (Nat.le_refl _)
        obtain ⟨k0, v0, d0, q0, HX⟩ : ∃ k0 v0 d0 q0, Hid (es[i]! = E.mk k0 v0 d0 q0) := ⟨_, _, _, _, rfl⟩
        obtain ⟨c0, c1, c2, c3⟩ := ents_four hEr i (by omega) HX.out
        obtain ⟨s0, s1⟩ := small_at hsm i (by omega) HX.out
        subst hao
        obtain ⟨m1, hm1⟩ : ∃ m, m = min k0.size 130 := ⟨_, rfl⟩
        obtain ⟨m2, hm2⟩ : ∃ m, m = min v0.size 1030 := ⟨_, rfl⟩
        have hz3 : min ((k0.size : Nat) : Int) 130 = (m1 : Int) := by omega
        have hz4 : min ((v0.size : Nat) : Int) 1030 = (m2 : Int) := by omega
        have hl1 : (m1 : Int) ≤ (k0.size : Int) := by omega
        have hl2 : (m2 : Int) ≤ (v0.size : Int) := by omega
        have HY : Hid (cutE 130 1030 ⟨k0, v0, d0, q0⟩ = ⟨k0.extract 0 m1, v0.extract 0 m2, d0, q0⟩) := by show _ = _; rw [cutE, hm1, hm2]
        clear hm1 hm2
        obtain ⟨done, HD⟩ : ∃ done, Hid (fewS 130 1030 i es = done) := ⟨_, rfl⟩
        rw [HD.out] at hown
        have hlenD : done.length ≤ 1000 := by rw [← HD.out, fewS_len]; omega
        have HBO : Hid _ := And.intro hown hbel
        clear hEr hEn hown hbel hln
        obtain ⟨w5, HW5⟩ : ∃ w5, Hid (w5 = wr.alloc (Obj.cells #[.string (k0.extract 0 m1), .string (v0.extract 0 m2), .bool d0, .int .i64 q0] 54)) := ⟨_, rfl⟩
        have hb5 : Below wr.heap.size wr w5 := by rw [HW5.out]; exact bel_alloc _ _
        have hbel5 : Below w.heap.size w w5 := HBO.out.2.trans (hb5.mono HBO.out.2.size)
        have HOA : Hid ((w5.alloc (Obj.cells #[.string (k0.extract 0 m1), .string (v0.extract 0 m2), .bool d0, .int .i64 q0] 54)).ownsRow w.heap.size 54 4 u5 done.length (flatE done)) := (own_below HBO.out.1 hb5 (Nat.le_refl _)).alloc _
        have HCA : Hid (∀ j u, (encE (E.mk (k0.extract 0 m1) (v0.extract 0 m2) d0 q0))[j]? = some u → (w5.alloc (Obj.cells #[.string (k0.extract 0 m1), .string (v0.extract 0 m2), .bool d0, .int .i64 q0] 54)).cell? ((⟨w5.heap.size, 0, none⟩ : Addr).add j) = some u) := ent_laid w5 _ _ d0 q0
        have HBA : Hid (w.heap.size ≤ (w5.alloc (Obj.cells #[.string (k0.extract 0 m1), .string (v0.extract 0 m2), .bool d0, .int .i64 q0] 54)).heap.size) := by show _ ≤ _; have := hbel5.size; simp; omega
        have HB5 : Hid _ := hbel5
        clear hb5 hbel5
        rw [HW5.out] at HOA HCA HBA
        have hsz5 : (wr.alloc (Obj.cells #[.string (k0.extract 0 m1), .string (v0.extract 0 m2), .bool d0, .int .i64 q0] 54)).heap.size = wr.heap.size + 1 := by simp
        rw [hsz5] at HCA
        clear hsz5
        go_wp2_with (at_builtin; refine wpList_append_own _ rfl (.tmp 39) (.tmp 41) 22 rfl w.heap.size 54 i0 _ 4 48 Tryd.underlying22 hi hz0 hz1 hz2 rfl (by decide) _ done.length (flatE done) rfl HOA.out ⟨wr.heap.size + 1, 0, none⟩ 1 1 (encE (E.mk (k0.extract 0 m1) (v0.extract 0 m2) d0 q0)) rfl rfl HCA.out (encE_one _) (by unfold maxLen; omega) (by omega) HBA.out ?_)
        intro v' w6 hown6 hgr6 _
        have hbel6 : Below w.heap.size w w6 := (HB5.out.alloc HB5.out.size _).trans (by rw [HW5.out]; exact (Below.refl _ _).grown hgr6 HBA.out (fun k hk => (HOA.out.lt k hk).1))
        clear hgr6 HOA HCA
        have HN : Hid _ := And.intro hown6 hbel6
        clear hown6 hbel6
        go_wp2
        go_roundw
        case rel =>
          refine ⟨i + 1, by go_num, by omega, by omega, ?_, HN.out.2⟩
          rw [fewS_snoc _ _ _ _ (by rw [HE.out.1]; omega), HD.out, HX.out, HY.out, flatE_append, List.length_append]
          simpa [flatE] using HN.out.1
        case measure => simp [intOf]; omega
      · have hlmz : ¬ (i : Int) < (most : Int) := by omega
        have hi2 : i = most := by omega
        have HN : Hid _ := And.intro hown hbel
        clear hown hbel
        go_wp2
        go_ret
        exact ⟨_, rfl, by rw [← hi2]; exact HN.out.1, HN.out.2⟩
    · have hltz : ¬ (i : Int) < (n : Int) := by omega
      have HT : Hid (fewS 130 1030 most es = fewS 130 1030 i es) := fewS_all _ _ _ _ (by rw [HE.out.1]; omega) _ (by rw [HE.out.1]; omega)
      have HN : Hid _ := And.intro hown hbel
      clear hown hbel
      go_wp2
      go_ret
      exact ⟨_, rfl, by rw [HT.out]; exact HN.out.1, HN.out.2⟩
def eA1 : E := ⟨⟨#[97]⟩, ⟨#[118]⟩, false, 1⟩
def eAB : E := ⟨⟨#[97, 98]⟩, ⟨#[]⟩, true, 2⟩
theorem block_shown : blockB [eA1, eAB] = [0, 1, 97, 0, 1, 1, 118, 1, 1, 98, 1, 2, 0, 0, 0, 0, 0, 0, 0, 1] := by kernel_rfl
theorem fit_shown : fitB [eA1, eAB] = true := by decide
theorem small_shown : Small [eA1, eAB] := by
  intro e he
  simp only [List.mem_cons, List.not_mem_nil, or_false] at he
  rcases he with rfl | rfl <;> exact ⟨by decide, by decide⟩
theorem ents_two (w : World) : Ents (w.alloc (Obj.cells (flatE [eA1, eAB]).toArray 54)) w.heap.size 0 [eA1, eAB] := fun j u hu => by
  have hb : (w.alloc (Obj.cells (flatE [eA1, eAB]).toArray 54)).heap[w.heap.size]? = some (Obj.cells (flatE [eA1, eAB]).toArray 54) := by rw [heap_alloc_get, if_pos rfl]
  rw [Nat.zero_add, cell_of_row _ _ _ _ _ _ hb]
  simpa using hu
end Go.Proofs.YtecacjddggljgaaDoor

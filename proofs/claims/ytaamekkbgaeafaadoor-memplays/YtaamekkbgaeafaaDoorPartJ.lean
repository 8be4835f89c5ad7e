/-
  copy of elements of several cells, and slices.Insert at entries. slices.Insert at entries: where there is no room, at the end, and in all cases.
-/
import Derived.Test.YtaamekkbgaeafaaDoorPartI
import Derived.Laws.CopyRow
import Derived.Laws.Externs
import Derived.Lib.Overlaps
import Derived.Lib.AppendZerosOnto
import Derived.Deep.AppendLies
import Derived.Shelf.RegionOpenPlain
import Derived.Deep.RegionHeld3
namespace Go.Proofs.YtaamekkbgaeafaaDoor
open Go.RowKit
set_option linter.unusedSectionVars false
variable [Inhabited E]
theorem run_copy_k {P : Program} (w : World) (dT sT ty elem : TypeId) (k : Nat) (g o dLen dCap : Nat) (a : Addr) (sLen sCap : Nat) (cur : Array Value) (t : TypeId) (cs : List Value) (m : Nat)
    (hu : P.underlying dT = some (.slice elem)) (hs : (P.info? elem).map (·.size) = some k)
    (hg : w.heap[g]? = some (.cells cur t (0, 0))) (hm : m = Nat.min sLen dLen) (hn : cs.length = m * k)
    (hsrc : ∀ j v, cs[j]? = some v → w.cell? (a.add j) = some v) (hfit : o + cs.length ≤ cur.size) (h1 : ∀ v ∈ cs, v.oneCell' = true) :
    (Builtin.copy_ #[dT, sT] ty #[.slice (some ⟨g, o, none⟩) dLen dCap, .slice (some a) sLen sCap]).run P w =
      .ok (goInt m) (w.setRow g (cur.toList.take o ++ cs ++ cur.toList.drop (o + cs.length)).toArray) := by
  have hl := run_loadCells_list (P := P) w a cs hsrc
  have hst := run_storeCells_at P g o t cs 0 cur w hg (by simpa using hfit) h1
  cases hq : P.info? elem with
  | none => simp [hq] at hs
  | some i =>
    have hi : i.size = k := by simpa [hq] using hs
    simp [Builtin.copy_, run_underlying hu, Builtin.lenOf, Builtin.firstCells, sizeOf, typeInfo, hq, hi, ← hm, ← hn, hl, hst]
theorem step_copy_eq {P : Program} {ops : Array Oper} {o : Oper} {a : Act} {w : World} {K : Act → World → Prop} {Q : Exit → Act → World → Prop} {F : Prop}
    (hg : o.guard = none) (d x : Operand) (dT sT : TypeId) (hop : o.op = Op.call { callee := Callee.builtin Builtin.copy, args := #[d, x], argTypes := #[dT, sT] })
    (v u : Value) (hd : a.eval d = v) (hx : a.eval x = u) {v' : Value} {w' : World} (hr : (Builtin.copy_ #[dT, sT] o.type #[v, u]).run P w = .ok v' w') (hK : K (a.put o.dst v') w') :
    if Region.wanted o (yielded ops a.tmps) = true then Oper.wp P o a w K Q else F := by
  rw [if_pos (by simp [Region.wanted, hg])]
  unfold Oper.wp
  simp [execOp, hop, resolve, invoke, builtin, hd, hx, hr, Result.andThen]
  exact hK
theorem wpList_copy_eq {P : Program} (w : World) {ops : Array Oper} {rest : List Oper} {o : Oper} {a : Act} {Q : Exit → Act → World → Prop} (hgd : o.guard = none) (d s : Operand) (t t' : TypeId)
    (ho : o.op = .call { callee := .builtin .copy, args := #[d, s], argTypes := #[t, t'] }) (v u : Value) (hd : a.eval d = v) (hs : a.eval s = u) {v' : Value} {w' : World}
    (hr : (Builtin.copy_ #[t, t'] o.type #[v, u]).run P w = .ok v' w') (h : wpList P ops Q rest (a.put o.dst v') w') : wpList P ops Q (o :: rest) a w := by
  refine wpList_plain hgd fun K hK => ?_
  unfold Oper.wp
  simp [execOp, ho, resolve, invoke, builtin, hd, hs, hr, Result.andThen]
  exact hK _ _ h
def insL (i : Nat) (x : E) (es : List E) : List E := es.take i ++ x :: es.drop i
theorem insL_len (i : Nat) (x : E) (es : List E) : (insL i x es).length = es.length + 1 := by
  simp [insL]; omega
theorem flat_insL (i : Nat) (x : E) (es : List E) : flatE (insL i x es) = flatE (es.take i) ++ (encE x ++ flatE (es.drop i)) := by rw [insL, flatE_append, flatE_cons]
theorem flat_take (i : Nat) (es : List E) (hi : i ≤ es.length) : flatE (es.take i) = (flatE es).take (i * 4) := by
  have h : flatE es = flatE (es.take i) ++ flatE (es.drop i) := by rw [← flatE_append, List.take_append_drop]
  have hl : (flatE (es.take i)).length = i * 4 := by rw [flatE_len, List.length_take]; omega
  rw [h]
  exact (List.take_left' hl).symm
theorem flat_drop (i : Nat) (es : List E) (hi : i ≤ es.length) : flatE (es.drop i) = (flatE es).drop (i * 4) := by
  have h : flatE es = flatE (es.take i) ++ flatE (es.drop i) := by rw [← flatE_append, List.take_append_drop]
  have hl : (flatE (es.take i)).length = i * 4 := by rw [flatE_len, List.length_take]; omega
  rw [h]
  exact (List.drop_left' hl).symm
theorem encE4 (x : E) : (encE x).length = 4 := rfl
/-- The row behind both copies, in place. -/
theorem shift_math (L : List Value) (es : List E) (x : E) (i n c : Nat) (hi : i < n) (hn : es.length = n) (hroom : n + 1 ≤ c) (hL : L.length = c * 4) (ht : L.take (n * 4) = flatE es)
    (L1 L2 : List Value) (h1 : L1 = L.take ((i + 1) * 4) ++ flatE (es.drop i) ++ L.drop ((i + 1) * 4 + (flatE (es.drop i)).length)) (h2 : L2 = L1.take (i * 4) ++ encE x ++ L1.drop (i * 4 + (encE x).length)) :
    L1.length = c * 4 ∧ L2.length = c * 4 ∧ L2.take ((n + 1) * 4) = flatE (insL i x es) := by
  have hd : (flatE (es.drop i)).length = (n - i) * 4 := by rw [flatE_len, List.length_drop, hn]
  have hta : flatE (es.take i) = L.take (i * 4) := by rw [flat_take i es (by omega), ← ht, List.take_take]; congr 1; omega
  have l1 : L1.length = c * 4 := by rw [h1, List.length_append, List.length_append, List.length_take, List.length_drop, hd, hL]; omega
  have e1 : L1.take (i * 4) = flatE (es.take i) := by
    rw [hta, h1, List.append_assoc, List.take_append_of_le_length (by rw [List.length_take, hL]; omega), List.take_take]; congr 1; omega
  have e2 : L1.drop (i * 4 + (encE x).length) = flatE (es.drop i) ++ L.drop ((i + 1) * 4 + (flatE (es.drop i)).length) := by
    rw [encE4, show i * 4 + 4 = (i + 1) * 4 by omega, h1, List.append_assoc]
    exact List.drop_left' (by rw [List.length_take, hL]; omega)
  have e3 : L2 = flatE (insL i x es) ++ L.drop ((i + 1) * 4 + (flatE (es.drop i)).length) := by
    rw [h2, e1, e2, flat_insL]; simp only [List.append_assoc]
  have l3 : (flatE (insL i x es)).length = (n + 1) * 4 := by rw [flatE_len, insL_len, hn]
  refine ⟨l1, ?_, by rw [e3]; exact List.take_left' l3⟩
  rw [e3, List.length_append, l3, List.length_drop, hd, hL]; omega
set_option maxHeartbeats 4000000 in
set_option maxRecDepth 100000 in
theorem insert_shift (b n c i vb : Nat) (es : List E) (x : E) (cur : Array Value) (w : World) (hi : i < n) (hn : es.length = n) (hroom : n + 1 ≤ c) (hc63 : c ≤ 9223372036854775807) (hvb : vb ≠ b) (hsmall : n ≤ 1000000000000)
    (hb : w.heap[b]? = some (.cells cur 29 (0, 0))) (hcs : cur.size = c * 4) (ht : cur.toList.take (n * 4) = flatE es) (hv : w.heap[vb]? = some (.cells (encE x).toArray 29 (0, 0))) :
    Calls Tryd.prog 32 #[.slice (some ⟨b, 0, none⟩) n c, .int .i64 i, .slice (some ⟨vb, 0, none⟩) 1 1] w fun e w' =>
      e = .returned (.slice (some ⟨b, 0, none⟩) (n + 1) c) ∧ w'.ownsRow 0 29 4 (.slice (some ⟨b, 0, none⟩) (n + 1) c) (n + 1) (flatE (insL i x es)) ∧ Only (fun k => k = b) w w' := by
  obtain ⟨L1, hL1⟩ : ∃ L1, L1 = cur.toList.take ((i + 1) * 4) ++ flatE (es.drop i) ++ cur.toList.drop ((i + 1) * 4 + (flatE (es.drop i)).length) := ⟨_, rfl⟩
  obtain ⟨L2, hL2⟩ : ∃ L2, L2 = L1.take (i * 4) ++ encE x ++ L1.drop (i * 4 + (encE x).length) := ⟨_, rfl⟩
  obtain ⟨m1, m2, m3⟩ := shift_math cur.toList es x i n c hi hn hroom (by simpa using hcs) ht L1 L2 hL1 hL2
  have hd : (flatE (es.drop i)).length = (n - i) * 4 := by rw [flatE_len, List.length_drop, hn]
  have hE : Ents w b 0 es := fun j u hu => by
    rw [Nat.zero_add, cell_of_row _ _ _ _ _ _ hb, ← hu, ← ht, List.getElem?_take]
    have := (List.getElem?_eq_some_iff.1 hu).1
    rw [flatE_len, hn] at this
    rw [if_pos this]; simp
  have hcp1 : ∀ ty dc sc, (Builtin.copy_ #[35, 35] ty #[.slice (some ⟨b, (i + 1) * 4, none⟩) (n - i) dc, .slice (some ⟨b, i * 4, none⟩) (n + 1 - i) sc]).run Tryd.prog w.drew = .ok (goInt (n - i : Nat)) (w.drew.setRow b L1.toArray) := fun ty dc sc => by
    rw [hL1]
    refine run_copy_k w.drew 35 35 ty 29 4 b ((i + 1) * 4) _ dc ⟨b, i * 4, none⟩ _ sc cur 29 (flatE (es.drop i)) (n - i) Tryd.underlying35 size23 hb (by simp only [Nat.min_def]; split <;> omega) hd (fun j u hu => ?_) (by rw [hd, hcs]; omega) (flatE_one _)
    rw [Addr.add_lit]
    have := hE (i * 4 + j) u (by rw [← hu, flat_drop i es (by omega), List.getElem?_drop])
    rw [Nat.zero_add] at this
    exact this
  have hcp2 : ∀ ty dc, (Builtin.copy_ #[35, 35] ty #[.slice (some ⟨b, i * 4, none⟩) (n + 1 - i) dc, .slice (some ⟨vb, 0, none⟩) 1 1]).run Tryd.prog (w.drew.setRow b L1.toArray) = .ok (goInt (1 : Nat)) ((w.drew.setRow b L1.toArray).setRow b L2.toArray) := fun ty dc => by
    rw [hL2]
    have hr := run_copy_k (w.drew.setRow b L1.toArray) 35 35 ty 29 4 b (i * 4) (n + 1 - i) dc ⟨vb, 0, none⟩ 1 1 L1.toArray 29 (encE x) 1 Tryd.underlying35 size23 (setRow_heap w.drew b _ _ _ _ hb) (by simp only [Nat.min_def]; split <;> omega) rfl (fun j u hu => by
      rw [Addr.add_lit, Nat.zero_add, cell_of_row _ _ _ _ _ _ ((setRow_other w.drew b vb L1.toArray hvb).trans hv)]; simpa using hu) (by rw [encE4]; simp [m1]; omega) (fun u hu => by have := flatE_one [x] u (by simpa [flatE] using hu); exact this)
    simpa using hr
  have hov : ∀ lb cb W, (∀ k : Nat, W.heap[k]? = w.heap[k]?) → (callFunc 47 #[.slice (some ⟨vb, 0, none⟩) 1 1, .slice (some ⟨b, (i + 1) * 4, none⟩) lb cb]).run Tryd.prog W = .ok (.value (.bool false)) W := fun lb cb W hW => by
    rw [run_callFunc_extern Tryd.func47 (by kernel_rfl) (by kernel_rfl) (by kernel_rfl) (e := Extern.SlicesOverlaps.overlaps #[35, 35] #[4]) (by kernel_rfl),
      Lib.run_overlaps_apart W 35 4 29 Tryd.underlying35 4 Tryd.sizeOf29 ⟨vb, 0, none⟩ ⟨b, (i + 1) * 4, none⟩ 1 1 lb cb hvb 29 29 4 (c * 4) (by simp [World.shape?, hW, hv, encE]) (by simp [World.shape?, hW, hb, hcs]) (by omega) (by simp [World.frozen?, hW, hv]) (by simp [World.frozen?, hW, hv])]
    rfl
  have HF : Hid (∀ W : World, W = (w.drew.setRow b L1.toArray).setRow b L2.toArray → W.ownsRow 0 29 4 (.slice (some ⟨b, 0, none⟩) (n + 1) c) (n + 1) (flatE (insL i x es)) ∧ Only (fun k => k = b) w W) := fun W hW => by
    subst hW
    refine ⟨⟨by rw [flatE_len, insL_len, hn], .inr ⟨b, c, L2.toArray, rfl, Nat.zero_le _, setRow_heap _ _ _ _ _ _ (setRow_heap w.drew b _ _ _ _ hb), hroom, by unfold maxLen; omega, by simpa using m2, by simpa using m3⟩⟩, ?_⟩
    exact Only.setRow (own := fun k => k = b) (Only.setRow (own := fun k => k = b) ((Only.refl (fun k => k = b) w).drewN 1) (g := b) (.inl rfl) _) (g := b) (.inl rfl) _
  have hov0 := fun lb cb => hov lb cb w (fun _ => rfl)
  clear hov hb hcs ht hv hE m1 m2 m3 hL1 hL2 hd
  have mixed : Tryd.prog.follows .mixedOrders = true := by kernel_rfl
  have hz2 : ¬ ((i : Int) = (n : Int)) := by omega
  have hz3 : (n : Int) + 1 ≤ (c : Int) := by omega
  have hz4 : ¬ ((c : Int) < (n : Int) + 1) := by omega
  have hb2 : ¬ (c = i + 1) := by omega
  have hb4 : ¬ (c = i) := by omega
  have hb5 : (i : Int) + 1 ≤ (n : Int) + 1 := by omega
  have hin : (i : Int) ≤ (n : Int) := by omega
  have hin2 : (i : Int) ≤ (n : Int) + 1 := by omega
  go_enter Tryd.func32, Tryd.ntmps32
  go_wp2_with (simp only [hov0])
  have hw1 : IntKind.i64.wrap ((i : Int) + 1) = (i : Int) + 1 := by rw [IntKind.wrap_i64]; omega
  have hb1 : (0 : Int) ≤ (i : Int) + 1 := by omega
  have htn : ((i : Int) + 1).toNat = i + 1 := by omega
  go_region_law_o (refine step_copy_eq rfl _ _ 35 35 rfl _ _ (by simp [Act.eval, Act.put]) (by simp [Act.eval, Act.put]) (hcp1 _ _ _) ?_)
  go_wp2_with (at_builtin; refine wpList_copy_eq _ rfl _ _ 35 35 rfl _ _ rfl rfl (hcp2 _ _) ?_)
  go_ret
  exact ⟨rfl, HF.out _ rfl⟩
end Go.Proofs.YtaamekkbgaeafaaDoor
namespace Go.Proofs.YtaamekkbgaeafaaDoor
open Go.RowKit
set_option linter.unusedSectionVars false
set_option linter.unusedVariables false
variable [Inhabited E]
theorem grow_math (L : List Value) (es : List E) (x : E) (i n c : Nat) (hi : i < n) (hn : es.length = n) (hroom : n + 1 ≤ c) (hL : L.length = c * 4) (ht : L.take (i * 4) = flatE (es.take i))
    (L1 L2 : List Value) (h1 : L1 = L.take (i * 4) ++ encE x ++ L.drop (i * 4 + (encE x).length)) (h2 : L2 = L1.take ((i + 1) * 4) ++ flatE (es.drop i) ++ L1.drop ((i + 1) * 4 + (flatE (es.drop i)).length)) :
    L1.length = c * 4 ∧ L2.length = c * 4 ∧ L2.take ((n + 1) * 4) = flatE (insL i x es) := by
  have hd : (flatE (es.drop i)).length = (n - i) * 4 := by rw [flatE_len, List.length_drop, hn]
  have htl : (flatE (es.take i)).length = i * 4 := by rw [flatE_len, List.length_take, hn]; omega
  have l1 : L1.length = c * 4 := by rw [h1, List.length_append, List.length_append, List.length_take, List.length_drop, encE4, hL]; omega
  have e1 : L1.take ((i + 1) * 4) = flatE (es.take i) ++ encE x := by
    rw [h1, ht]
    exact List.take_left' (by rw [List.length_append, htl, encE4]; omega)
  have e3 : L2 = flatE (insL i x es) ++ L1.drop ((i + 1) * 4 + (flatE (es.drop i)).length) := by
    rw [h2, e1, flat_insL]; simp only [List.append_assoc]
  have l3 : (flatE (insL i x es)).length = (n + 1) * 4 := by rw [flatE_len, insL_len, hn]
  refine ⟨l1, ?_, by rw [e3]; exact List.take_left' l3⟩
  rw [e3, List.length_append, l3, List.length_drop, hd, l1]; omega
theorem zero29 (k : Nat) : (Builtin.zeroCells (Value.agg #[.string ByteArray.empty, .string ByteArray.empty, .bool false, .int .i64 0]).cells k).size = k * 4 := by
  simp [Builtin.zeroCells, Value.cells]
set_option maxHeartbeats 4000000 in
set_option maxRecDepth 100000 in
theorem insert_grow (b n c i vb : Nat) (es : List E) (x : E) (w : World) (hi : i < n) (hn : es.length = n) (hnc : n ≤ c) (hroom : c < n + 1) (hsmall : n ≤ 1000000)
    (hE : Ents w b 0 es) (hv : w.heap[vb]? = some (.cells (encE x).toArray 29 (0, 0))) :
    Calls Tryd.prog 32 #[.slice (some ⟨b, 0, none⟩) n c, .int .i64 i, .slice (some ⟨vb, 0, none⟩) 1 1] w fun e w' =>
      ∃ G, e = .returned (.slice (some ⟨w.heap.size, 0, none⟩) (n + 1) G) ∧ w'.ownsRow 0 29 4 (.slice (some ⟨w.heap.size, 0, none⟩) (n + 1) G) (n + 1) (flatE (insL i x es)) ∧ Below w.heap.size w w' := by
  obtain ⟨i0, hi0, hz0, hzs, hzb⟩ := info_parts info23
  have hbw : b < w.heap.size := hE.lt (by omega)
  have hvw := heap_lt hv
  obtain ⟨G, hG⟩ : ∃ G, G = grownCap w (n + 1) c 29 := ⟨_, rfl⟩
  have hGn : n + 1 ≤ G := by rw [hG]; exact grownCap_ge w _ _ _
  have hG63 : G ≤ 9223372036854775807 := by
    have := grownCap_le_maxLen w (n + 1) c 29 (by unfold maxLen; omega)
    rw [← hG] at this
    unfold maxLen at this
    omega
  have hik : i + (n + 1 - i) = n + 1 := by omega
  have htl : (flatE (es.take i)).length = i * 4 := by rw [flatE_len, List.length_take, hn]; omega
  have hold : (Builtin.firstCells i0.size i (.slice (some ⟨b, 0, none⟩) i c)).run Tryd.prog w.drew = .ok (flatE (es.take i)).toArray w.drew := by
    rw [hzs]
    exact run_firstCells_some w.drew 4 i ⟨b, 0, none⟩ i c (flatE (es.take i)) htl (fun j v hj => by
      rw [Addr.add_lit]
      refine hE j v ?_
      rw [flat_take i es (by omega), List.getElem?_take] at hj
      split at hj
      · exact hj
      · cases hj)
  obtain ⟨ROW, hROW⟩ : ∃ ROW : Array Value, ROW = (flatE (es.take i)).toArray ++ Builtin.zeroCells (Value.agg #[.string ByteArray.empty, .string ByteArray.empty, .bool false, .int .i64 0]).cells (n + 1 - i) ++ Builtin.zeroCells (Value.agg #[.string ByteArray.empty, .string ByteArray.empty, .bool false, .int .i64 0]).cells (G - (n + 1)) := ⟨_, rfl⟩
  have hrz : ∀ ty, (Builtin.append_ #[35, 3] ty #[.slice (some ⟨b, 0, none⟩) i c, .int .i64 ((n : Int) + 1 - (i : Int))]).run Tryd.prog w = .ok (.slice (some ⟨w.heap.size, 0, none⟩) (n + 1) G) (w.drew.alloc (.cells ROW 29)) := fun ty => by
    have h := Lib.run_append_grow_zeros w 35 3 ty 29 i0 _ .i64 .i64 Tryd.underlying35 Tryd.underlying3 hi0 hz0 (some ⟨b, 0, none⟩) i c (flatE (es.take i)) hold (n + 1 - i) (by omega) (by omega) (by omega) (by omega) (by rw [hzb]; omega) (by rw [hzb, hik]; exact growslice_fits hroom (by omega))
    rw [hik, ← hG, ← hROW] at h
    rw [show (n : Int) + 1 - (i : Int) = ((n + 1 - i : Nat) : Int) by omega]
    exact h
  have hRs : ROW.size = G * 4 := by rw [hROW, Array.size_append, Array.size_append, zero29, zero29, List.size_toArray, htl]; omega
  have hRt : ROW.toList.take (i * 4) = flatE (es.take i) := by
    rw [hROW, Array.append_assoc, Array.toList_append]
    exact List.take_left' (by simpa using htl)
  obtain ⟨L1, hL1⟩ : ∃ L1, L1 = ROW.toList.take (i * 4) ++ encE x ++ ROW.toList.drop (i * 4 + (encE x).length) := ⟨_, rfl⟩
  obtain ⟨L2, hL2⟩ : ∃ L2, L2 = L1.take ((i + 1) * 4) ++ flatE (es.drop i) ++ L1.drop ((i + 1) * 4 + (flatE (es.drop i)).length) := ⟨_, rfl⟩
  obtain ⟨m1, m2, m3⟩ := grow_math ROW.toList es x i n G hi hn hGn (by simpa using hRs) hRt L1 L2 hL1 hL2
  have hd : (flatE (es.drop i)).length = (n - i) * 4 := by rw [flatE_len, List.length_drop, hn]
  obtain ⟨W1, hW1⟩ : ∃ W1, W1 = w.drew.alloc (.cells ROW 29) := ⟨_, rfl⟩
  rw [← hW1] at hrz
  have hb1 : Below w.heap.size w W1 := by rw [hW1]; exact (Below.drew (Below.refl _ w)).alloc (Nat.le_refl _) _
  have hg1 : W1.heap[w.heap.size]? = some (.cells ROW 29 (0, 0)) := by rw [hW1]; exact heap_alloc_new w.drew _
  have hcpA : ∀ ty dc, (Builtin.copy_ #[35, 35] ty #[.slice (some ⟨w.heap.size, i * 4, none⟩) (n + 1 - i) dc, .slice (some ⟨vb, 0, none⟩) 1 1]).run Tryd.prog W1 = .ok (goInt (1 : Nat)) (W1.setRow w.heap.size L1.toArray) := fun ty dc => by
    rw [hL1]
    exact run_copy_k W1 35 35 ty 29 4 w.heap.size (i * 4) (n + 1 - i) dc ⟨vb, 0, none⟩ 1 1 ROW 29 (encE x) 1 Tryd.underlying35 size23 hg1 (by simp only [Nat.min_def]; split <;> omega) rfl (fun j u hu => by
      rw [Addr.add_lit, Nat.zero_add, cell_of_row _ _ _ _ _ _ ((hb1.block vb hvw).trans hv)]; simpa using hu) (by rw [encE4]; omega) (fun u hu => by have := flatE_one [x] u (by simpa [flatE] using hu); exact this)
  have hg2 : (W1.setRow w.heap.size L1.toArray).drew.heap[w.heap.size]? = some (.cells L1.toArray 29 (0, 0)) := setRow_heap W1 _ _ _ _ _ hg1
  have hcpB : ∀ ty dc sc, (Builtin.copy_ #[35, 35] ty #[.slice (some ⟨w.heap.size, (i + 1) * 4, none⟩) (n - i) dc, .slice (some ⟨b, i * 4, none⟩) (n - i) sc]).run Tryd.prog (W1.setRow w.heap.size L1.toArray).drew = .ok (goInt (n - i : Nat)) ((W1.setRow w.heap.size L1.toArray).drew.setRow w.heap.size L2.toArray) := fun ty dc sc => by
    rw [hL2]
    have hr := run_copy_k (W1.setRow w.heap.size L1.toArray).drew 35 35 ty 29 4 w.heap.size ((i + 1) * 4) (n - i) dc ⟨b, i * 4, none⟩ (n - i) sc L1.toArray 29 (flatE (es.drop i)) (n - i) Tryd.underlying35 size23 hg2 (by simp only [Nat.min_def]; split <;> omega) hd (fun j u hu => by
      rw [Addr.add_lit]
      have h9 := hE (i * 4 + j) u (by rw [← hu, flat_drop i es (by omega), List.getElem?_drop])
      rw [Nat.zero_add] at h9
      rw [← h9]
      refine World.cell?_of_block (a := ⟨b, i * 4 + j, none⟩) ?_
      exact (setRow_other W1 w.heap.size b L1.toArray (by omega)).trans (hb1.block b hbw)) (by rw [hd]; simp [m1]; omega) (flatE_one _)
    simpa using hr
  have HF : Hid (∀ W : World, W = (W1.setRow w.heap.size L1.toArray).drew.setRow w.heap.size L2.toArray → W.ownsRow 0 29 4 (.slice (some ⟨w.heap.size, 0, none⟩) (n + 1) G) (n + 1) (flatE (insL i x es)) ∧ Below w.heap.size w W) := fun W hW => by
    subst hW
    refine ⟨⟨by rw [flatE_len, insL_len, hn], .inr ⟨w.heap.size, G, L2.toArray, rfl, Nat.zero_le _, setRow_heap _ _ _ _ _ _ hg2, hGn, by unfold maxLen; omega, by simpa using m2, by simpa using m3⟩⟩, ?_⟩
    exact below_setRow (Below.drew (below_setRow hb1 (Nat.le_refl _) _)) (Nat.le_refl _) _
  clear hold hROW hRs hRt hL1 hL2 m1 m2 m3 hd hb1 hg1 hg2 hW1 hE hv hG hi0 hz0 hzs hzb
  have mixed : Tryd.prog.follows .mixedOrders = true := by kernel_rfl
  have hz2 : ¬ ((i : Int) = (n : Int)) := by omega
  have hz3 : (c : Int) < (n : Int) + 1 := by omega
  have hb2 : ¬ (G = i + 1) := by omega
  have hb4 : ¬ (G = i) := by omega
  have hb6 : ¬ (c = i) := by omega
  have hb5 : (i : Int) + 1 ≤ (n : Int) + 1 := by omega
  have hin : (i : Int) ≤ (n : Int) := by omega
  have hinc : (i : Int) ≤ (c : Int) := by omega
  have hin2 : (i : Int) ≤ (n : Int) + 1 := by omega
  go_enter Tryd.func32, Tryd.ntmps32
  go_wp2_with (at_builtin; first | (refine Lib.wpList_append_run _ rfl _ _ 35 3 rfl _ _ rfl rfl _ _ (hrz _) ?_) | (refine wpList_copy_eq _ rfl _ _ 35 35 rfl _ _ rfl rfl (hcpA _ _) ?_))
  have hw1 : IntKind.i64.wrap ((i : Int) + 1) = (i : Int) + 1 := by rw [IntKind.wrap_i64]; omega
  have hb1 : (0 : Int) ≤ (i : Int) + 1 := by omega
  have htn : ((i : Int) + 1).toNat = i + 1 := by omega
  go_region_law_o (refine step_copy_eq rfl _ _ 35 35 rfl _ _ (by simp [Act.eval, Act.put]) (by simp [Act.eval, Act.put]) (hcpB _ _ _) ?_)
  go_wp2
  go_ret
  exact ⟨G, rfl, HF.out _ rfl⟩
set_option maxHeartbeats 4000000 in
set_option maxRecDepth 100000 in
theorem insert_end (ao : Option Addr) (n c vb : Nat) (es : List E) (x : E) (w : World) (hsmall : n ≤ 1000000) (hnc : n ≤ c) (hc63 : c ≤ 9223372036854775807)
    (hrow : w.ownsRow 0 29 4 (.slice ao n c) n (flatE es)) (hv : w.heap[vb]? = some (.cells (encE x).toArray 29 (0, 0))) :
    Calls Tryd.prog 32 #[.slice ao n c, .int .i64 n, .slice (some ⟨vb, 0, none⟩) 1 1] w fun e w' =>
      ∃ v', e = .returned v' ∧ w'.ownsRow 0 29 4 v' (n + 1) (flatE (es ++ [x])) ∧ Only (fun k => (Value.slice ao n c).ownBlock = some k) w w' ∧ (∀ k, v'.ownBlock = some k → (Value.slice ao n c).ownBlock = some k ∨ w.heap.size ≤ k) := by
  obtain ⟨i0, hi0, hz0, hzs, hzb⟩ := info_parts info23
  have HR : Hid (w.ownsRow 0 29 4 (.slice ao n c) n (flatE es)) := hrow
  have HV : Hid (∀ j u, (encE x)[j]? = some u → w.cell? ((⟨vb, 0, none⟩ : Addr).add j) = some u) := fun j u hu => by
    rw [Addr.add_lit, Nat.zero_add, cell_of_row _ _ _ _ _ _ hv]; simpa using hu
  have HO : Hid (∀ u ∈ encE x, u.oneCell' = true) := fun u hu => by have := flatE_one [x] u (by simpa [flatE] using hu); exact this
  have HX : Hid (flatE (es ++ [x]) = flatE es ++ encE x) := by show _ = _; rw [flatE_append, flatE_cons, flatE_nil, List.append_nil]
  rw [HX.out]
  have H1 : Hid (n + 1 ≤ maxLen) := by show _ ≤ _; unfold maxLen; omega
  have H2 : Hid ((n + 1) * 48 ≤ 140737488355328) := by show _ ≤ _; omega
  clear hrow hv HX
  obtain ⟨nx, hnx⟩ : ∃ a, (if c = n then ao else Option.map (fun x => x.add (n * 4)) ao) = a := ⟨_, rfl⟩
  go_enter Tryd.func32, Tryd.ntmps32
  go_wp2_with (at_builtin; refine wpList_append_lies _ rfl _ _ 35 rfl 0 29 i0 _ 4 48 Tryd.underlying35 hi0 hz0 hzs hzb rfl (by decide) (.slice ao n c) n (flatE es) rfl HR.out ⟨vb, 0, none⟩ 1 1 (encE x) rfl rfl HV.out HO.out (by decide) H1.out H2.out (Nat.zero_le _) w.heap.size rfl ?_; intro g2 cap2 w2 h2 h3 h4 h5)
  go_ret
  refine ⟨_, rfl, h2, ⟨h3.os, h3.tape, h3.output, h3.size, fun k hk hn => h3.block k hk (fun e => hn e.symm)⟩, fun k hk => ?_⟩
  cases hk
  rcases h4 with h4 | h4
  · exact .inl h4
  · exact .inr (Nat.le_of_eq h4.symm)
theorem insert_any (v : Value) (n i vb : Nat) (es : List E) (x : E) (w : World) (hi : i ≤ n) (hsmall : n ≤ 1000000)
    (hrow : w.ownsRow 0 29 4 v n (flatE es)) (hv : w.heap[vb]? = some (.cells (encE x).toArray 29 (0, 0))) (hne : v.ownBlock ≠ some vb) :
    Calls Tryd.prog 32 #[v, .int .i64 i, .slice (some ⟨vb, 0, none⟩) 1 1] w fun e w' =>
      ∃ v', e = .returned v' ∧ w'.ownsRow 0 29 4 v' (n + 1) (flatE (insL i x es)) ∧ Only (fun k => v.ownBlock = some k) w w' ∧ (∀ k, v'.ownBlock = some k → v.ownBlock = some k ∨ w.heap.size ≤ k) := by
  have hn : es.length = n := by have := hrow.1; rw [flatE_len] at this; omega
  by_cases hin : i = n
  · subst hin
    have hil : insL i x es = es ++ [x] := by rw [insL, List.take_of_length_le (by omega), List.drop_of_length_le (by omega)]
    rw [hil]
    rcases hrow.2 with ⟨rfl, h0⟩ | ⟨b, cap, cur, rfl, hB, hgg, hnc, hm, rest⟩
    · subst h0
      exact insert_end none 0 0 vb es x w (by omega) (Nat.le_refl _) (by omega) hrow hv
    · exact insert_end _ i cap vb es x w hsmall hnc (by unfold maxLen at hm; omega) hrow hv
  · rcases hrow.2 with ⟨rfl, h0⟩ | ⟨b, cap, cur, rfl, hB, hgg, hnc, hm, hcs, ht⟩
    · omega
    · by_cases hroom : n + 1 ≤ cap
      · refine (insert_shift b n cap i vb es x cur w (by omega) hn hroom (by unfold maxLen at hm; omega) (fun e => hne (by rw [e]; rfl)) (by omega) hgg hcs ht hv).mono ?_
        rintro e w' ⟨rfl, h1, h2⟩
        refine ⟨_, rfl, h1, h2.mono (fun k hk => .inl (by rw [hk]; rfl)), fun k hk => .inl hk⟩
      · refine (insert_grow b n cap i vb es x w (by omega) hn hnc (by omega) hsmall (own_ents hrow) hv).mono ?_
        rintro e w' ⟨G, rfl, h1, h2⟩
        refine ⟨_, rfl, h1, Only.of_below h2, fun k hk => .inr ?_⟩
        cases hk
        exact Nat.le_refl _
end Go.Proofs.YtaamekkbgaeafaaDoor

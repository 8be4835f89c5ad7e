/-
  A fold of folds is the fold of all: plain mathematics, no program. A list has a block, or not: what the law BlockBytes answers, for any arguments. Parts of a row of entries, and an append in a drawn region. What entry.Map answers: contracts over this translation.
-/
import Derived.Test.YtaamekkbgaeafaaDoorPartG
import Derived.Test.YtaamekkbgaeafaaDoorSame
import Derived.Deep.DeepCutAuto
import Derived.Lib.SliceRun
import Derived.Lib.LazyBuf
namespace Go.Proofs.YtaamekkbgaeafaaDoor
set_option linter.unusedSectionVars false
variable [Inhabited E]
/-- One behind the other. -/
def comb (o p : Option E) : Option E :=
  match p with
  | none => o
  | some e => lat o e
theorem comb_lat (o p : Option E) (e : E) : comb o (lat p e) = lat (comb o p) e := by
  cases p with
  | none => rfl
  | some b =>
    cases o with
    | none =>
      simp only [lat, comb]
      by_cases h : b.seq ≤ e.seq <;> simp [h]
    | some a =>
      simp only [lat, comb]
      by_cases h : b.seq ≤ e.seq
      · by_cases h2 : a.seq ≤ b.seq
        · simp [h, h2, show a.seq ≤ e.seq by omega]
        · simp [h, h2]
      · by_cases h2 : a.seq ≤ b.seq
        · simp [h, h2]
        · simp [h, h2, show ¬ a.seq ≤ e.seq by omega]
theorem best_snoc (k : ByteArray) (o : Option E) (l : List E) (e : E) : best k o (l ++ [e]) = if e.key = k then lat (best k o l) e else best k o l := by
  unfold best; rw [List.foldl_append]; rfl
theorem best_comb (k : ByteArray) (o : Option E) (l : List E) : best k o l = comb o (best k none l) := by
  induction l using snoc_rec with
  | h0 => rfl
  | hs l e ih =>
    rw [best_snoc, best_snoc, ih]
    by_cases h : e.key = k
    · rw [if_pos h, if_pos h, comb_lat]
    · rw [if_neg h, if_neg h]
theorem best_ks (k : ByteArray) : ∀ {f : List E}, Ks f → best k none f = lk k f
  | [], _ => rfl
  | e :: r, h => by
    have hr := (List.pairwise_cons.1 h).2
    have ih := best_ks k hr
    show best k (if e.key = k then lat none e else none) r = _
    rw [best_comb, lk_cons]
    by_cases c : e.key = k
    · subst c
      rw [if_pos rfl, if_pos rfl, ih, lk_head h]
      rfl
    · rw [if_neg c, if_neg c, ih]
      cases lk k r <;> rfl
theorem foldS_idem {f : List E} (h : Ks f) : foldS f = f :=
  ks_ext (ks_foldS f) h fun k => by rw [lk_foldS, best_ks k h]
theorem foldS_parts (a b : List E) : foldS (foldS a ++ foldS b) = foldS (a ++ b) := by
  refine ks_ext (ks_foldS _) (ks_foldS _) fun k => ?_
  have hap : ∀ (x y : List E), best k none (x ++ y) = comb (best k none x) (best k none y) := by
    intro x y
    rw [← best_comb]
    unfold best
    rw [List.foldl_append]
  rw [lk_foldS, lk_foldS, hap, hap, best_ks k (ks_foldS a), best_ks k (ks_foldS b), lk_foldS, lk_foldS]
theorem ks_index {f : List E} (h : Ks f) {x : E} (hx : x ∈ f) : belowN x.key f < f.length ∧ f[belowN x.key f]! = x ∧ isIn x.key f = true := by
  obtain ⟨i, hi, hxi⟩ := List.getElem_of_mem hx
  have hget : f[i]! = x := by rw [getElem!_pos f i hi, hxi]
  have h1 := ks_place x.key h i hi
  have hle := belowN_le x.key f
  have h2 : ¬ i < belowN x.key f := fun hc => by
    have := h1.2 hc
    rw [hget] at this
    have := cmpS_ord.self x.key; omega
  have h3 : belowN x.key f = i := by
    by_cases hlt : belowN x.key f < i
    · exfalso
      have h4 := ks_place x.key h (belowN x.key f) (by omega)
      have h5 := List.pairwise_iff_getElem.1 h (belowN x.key f) i (by omega) hi hlt
      rw [hxi] at h5
      have h6 := h4.1 (by rw [getElem!_pos f _ (by omega)]; exact h5)
      omega
    · omega
  refine ⟨by omega, by rw [h3]; exact hget, ?_⟩
  unfold isIn
  rw [List.any_eq_true]
  exact ⟨x, hx, by simp⟩
/-- Each key of a list is in its fold, with a number that is not less. -/
theorem foldS_has {l : List E} {e : E} (he : e ∈ l) : ∃ x, x ∈ foldS l ∧ x.key = e.key ∧ e.seq ≤ x.seq := by
  have hn : ofKey e.key l ≠ [] := List.ne_nil_of_mem (List.mem_filter.2 ⟨he, by simp⟩)
  obtain ⟨x, hx⟩ := lat_some _ hn
  obtain ⟨h1, h2, h3⟩ := lat_spec _ x hx
  have hl : lk e.key (foldS l) = some x := by rw [lk_foldS, best_ofKey, hx]
  obtain ⟨hm, hk⟩ := lk_mem hl
  exact ⟨x, hm, hk, h1 e (List.mem_filter.2 ⟨he, by simp⟩)⟩
end Go.Proofs.YtaamekkbgaeafaaDoor
namespace Go.Proofs.YtaamekkbgaeafaaDoor
open Go.RowKit Go.Sort Go.Shelf
set_option linter.unusedSectionVars false
variable [Inhabited E] [DecidableEq E]
theorem own_entsV0 {w : World} {base : Nat} {v : Value} {n : Nat} {es : List E} (h : w.ownsRow base 29 4 v n (flatE es)) (hn : es.length = n) : ∃ ao c, v = .slice ao n c ∧ EntsV w ao n es ∧ (ao = none → c = 0) := by
  by_cases hp : 0 < n
  · obtain ⟨g, c, rfl, hE, _⟩ := own_shapeE h hp
    exact ⟨_, c, rfl, ⟨hn, fun _ => ⟨g, 0, rfl, hE⟩⟩, fun h => by cases h⟩
  · obtain rfl : n = 0 := by omega
    rcases h.2 with ⟨hv, _⟩ | ⟨g, cap, cur, rfl, _⟩
    · exact ⟨none, 0, hv, ⟨hn, fun h => absurd h (by omega)⟩, fun _ => rfl⟩
    · exact ⟨_, cap, rfl, ⟨hn, fun h => absurd h (by omega)⟩, fun h => by cases h⟩
/-- 'append(own, more...)' of entries. -/
theorem wpList_append_ents {ops : Array Oper} {rest : List Oper} {o : Oper} {a : Act} {Q : Exit → Act → World → Prop} (w : World)
    (hg : o.guard = none) (s x : Operand) (hop : o.op = Op.call { callee := Callee.builtin Builtin.append, args := #[s, x], argTypes := #[35, 35] })
    (base : Nat) (v : Value) (n : Nat) (xs : List E) (hs : a.eval s = v) (hown : w.ownsRow base 29 4 v n (flatE xs)) (hbase : base ≤ w.heap.size)
    (ao : Option Addr) (m c : Nat) (ys : List E) (hx : a.eval x = .slice ao m c) (hE : EntsV w ao m ys) (h0 : ao = none → c = 0)
    (hb : n + m ≤ 1000000000000)
    (hK : ∀ v' w', w'.ownsRow base 29 4 v' (xs ++ ys).length (flatE (xs ++ ys)) → Below base w w' → wpList Tryd.prog ops Q rest (a.put o.dst v') w') :
    wpList Tryd.prog ops Q (o :: rest) a w := by
  obtain ⟨i0, hi, hz0, hz1, hz2⟩ := info_parts info23
  have hn : n = xs.length := by have := hown.1; rw [flatE_len] at this; omega
  have hml := hE.1
  cases ao with
  | none =>
    have hm : m = 0 := by
      by_cases hp : 0 < m
      · obtain ⟨b, off, h1, _⟩ := hE.2 hp; cases h1
      · omega
    obtain rfl := h0 rfl
    subst hm
    have hys : ys = [] := List.eq_nil_of_length_eq_zero hml
    subst hys
    refine wpList_append_own_none hg s x 35 hop base 29 i0 4 Tryd.underlying35 hi v n (flatE xs) hs hown hx ?_
    exact hK v w (by rw [List.append_nil, ← hn]; exact hown) (Below.refl _ _)
  | some ad =>
    refine wpList_append_own w hg s x 35 hop base 29 i0 _ 4 48 Tryd.underlying35 hi hz0 hz1 hz2 rfl (by decide) v n (flatE xs) hs hown ad m c (flatE ys) hx (by rw [flatE_len]; omega) ?_ (flatE_one ys) (by unfold maxLen; omega) (by omega) hbase ?_
    · intro j u hu
      have hp : 0 < m := by
        have := (List.getElem?_eq_some_iff.1 hu).1
        rw [flatE_len] at this; omega
      obtain ⟨b, off, h1, h2⟩ := hE.2 hp
      cases h1
      rw [Addr.add_lit]
      exact h2 j u hu
    · intro v' w' h1 h2 _
      refine hK v' w' ?_ ((Below.refl _ _).grown h2 hbase (fun k hk => (hown.lt k hk).1))
      rw [List.length_append, hml, ← hn, flatE_append]
      exact h1
end Go.Proofs.YtaamekkbgaeafaaDoor
namespace Go.Proofs.YtaamekkbgaeafaaDoor
open Go.RowKit Go.Sort Go.Shelf
set_option linter.unusedSectionVars false
variable [Inhabited E] [DecidableEq E]
theorem EntsV.take {w : World} {ao : Option Addr} {n : Nat} {es : List E} (h : EntsV w ao n es) (k : Nat) (hk : k ≤ n) : EntsV w ao k (es.take k) := by
  refine ⟨by rw [List.length_take, h.1]; omega, fun hp => ?_⟩
  obtain ⟨b, off, h1, h2⟩ := h.2 (by omega)
  refine ⟨b, off, h1, fun j u hu => h2 j u ?_⟩
  have := List.take_append_drop k es
  rw [← this, flatE_append]
  rw [List.getElem?_append_left (List.getElem?_eq_some_iff.1 hu).1]
  exact hu
theorem EntsV.drop {w : World} {b off n : Nat} {es : List E} (h : EntsV w (some ⟨b, off, none⟩) n es) (k : Nat) (hk : k ≤ n) : EntsV w (some ⟨b, off + k * 4, none⟩) (n - k) (es.drop k) := by
  refine ⟨by rw [List.length_drop, h.1], fun hp => ?_⟩
  obtain ⟨b', off', h1, h2⟩ := h.2 (by omega)
  cases h1
  refine ⟨b, off + k * 4, rfl, fun j u hu => ?_⟩
  have := h2 (k * 4 + j) u (by
    rw [← List.take_append_drop k es, flatE_append, List.getElem?_append_right (by rw [flatE_len, List.length_take, h.1]; omega), flatE_len, List.length_take, h.1, Nat.min_eq_left hk, Nat.add_sub_cancel_left]
    exact hu)
  rw [← Nat.add_assoc] at this
  exact this
/-- What 'l[k:]' is, whatever l's room. -/
theorem EntsV.from {w : World} {ao : Option Addr} {n c : Nat} {es : List E} (h : EntsV w ao n es) (k : Nat) (hk : k ≤ n) (hc : n ≤ c) :
    EntsV w (if c = k then ao else Option.map (fun x => x.add (k * 4)) ao) (n - k) (es.drop k) := by
  by_cases hp : 0 < n - k
  · obtain ⟨b, off, rfl, _⟩ := h.2 (by omega)
    rw [if_neg (by omega)]
    rw [Option.map_some, Addr.add_lit]
    exact h.drop k hk
  · exact ⟨by rw [List.length_drop, h.1], fun hq => absurd hq hp⟩
theorem entsV_nil (w : World) (ao : Option Addr) : EntsV w ao 0 [] := ⟨rfl, fun h => absurd h (by omega)⟩
theorem own_emptyE (w : World) : (w.alloc (.cells #[] 29)).ownsRow w.heap.size 29 4 (.slice (some ⟨w.heap.size, 0, none⟩) 0 0) 0 (flatE []) :=
  World.ownsRow_made w #[] 0 (Nat.le_refl _) (by unfold maxLen; omega) rfl
theorem wp_append_ents {o : Oper} {a : Act} {K : Act → World → Prop} {Q : Exit → Act → World → Prop} (w : World)
    (s x : Operand) (hop : o.op = Op.call { callee := Callee.builtin Builtin.append, args := #[s, x], argTypes := #[35, 35] })
    (base : Nat) (v : Value) (n : Nat) (xs : List E) (hs : a.eval s = v) (hown : w.ownsRow base 29 4 v n (flatE xs)) (hbase : base ≤ w.heap.size)
    (ao : Option Addr) (m c : Nat) (ys : List E) (hx : a.eval x = .slice ao m c) (hE : EntsV w ao m ys) (h0 : ao = none → c = 0)
    (hb : n + m ≤ 1000000000000)
    (hK : ∀ v' w', w'.ownsRow base 29 4 v' (xs ++ ys).length (flatE (xs ++ ys)) → Below base w w' → K (a.put o.dst v') w') :
    o.wp Tryd.prog a w K Q := by
  obtain ⟨i0, hi, hz0, hz1, hz2⟩ := info_parts info23
  have hn : n = xs.length := by have := hown.1; rw [flatE_len] at this; omega
  have hml := hE.1
  cases ao with
  | none =>
    have hm : m = 0 := by
      by_cases hp : 0 < m
      · obtain ⟨b, off, h1, _⟩ := hE.2 hp; cases h1
      · omega
    obtain rfl := h0 rfl
    subst hm
    have hys : ys = [] := List.eq_nil_of_length_eq_zero hml
    subst hys
    have hrun := run_append_owned_none (P := Tryd.prog) (w := w) base 35 o.type 29 i0 4 Tryd.underlying35 hi v n (flatE xs) hown
    unfold Oper.wp
    simp [execOp, hop, resolve, invoke, builtin, hs, hx, hrun, Result.andThen]
    exact hK v w (by rw [List.append_nil, ← hn]; exact hown) (Below.refl _ _)
  | some ad =>
    refine wp_append_own w s x 35 hop base 29 i0 _ 4 48 Tryd.underlying35 hi hz0 hz1 hz2 rfl (by decide) v n (flatE xs) hs hown ad m c (flatE ys) hx (by rw [flatE_len]; omega) ?_ (flatE_one ys) (by unfold maxLen; omega) (by omega) hbase ?_
    · intro j u hu
      have hp : 0 < m := by
        have := (List.getElem?_eq_some_iff.1 hu).1
        rw [flatE_len] at this; omega
      obtain ⟨b, off, h1, h2⟩ := hE.2 hp
      cases h1
      rw [Addr.add_lit]
      exact h2 j u hu
    · intro v' w' h1 h2 _
      refine hK v' w' ?_ ((Below.refl _ _).grown h2 hbase (fun k hk => (hown.lt k hk).1))
      rw [List.length_append, hml, ← hn, flatE_append]
      exact h1
theorem step_append_ents {ops : Array Oper} {o : Oper} {a : Act} {K : Act → World → Prop} {Q : Exit → Act → World → Prop} {E0 : Prop} (w : World)
    (hg : o.guard = none) (s x : Operand) (hop : o.op = Op.call { callee := Callee.builtin Builtin.append, args := #[s, x], argTypes := #[35, 35] })
    (base : Nat) (v : Value) (n : Nat) (xs : List E) (hs : a.eval s = v) (hown : w.ownsRow base 29 4 v n (flatE xs)) (hbase : base ≤ w.heap.size)
    (ao : Option Addr) (m c : Nat) (ys : List E) (hx : a.eval x = .slice ao m c) (hE : EntsV w ao m ys) (h0 : ao = none → c = 0)
    (hb : n + m ≤ 1000000000000)
    (hK : ∀ v' w', w'.ownsRow base 29 4 v' (xs ++ ys).length (flatE (xs ++ ys)) → Below base w w' → K (a.put o.dst v') w') :
    if Region.wanted o (yielded ops a.tmps) = true then Oper.wp Tryd.prog o a w K Q else E0 := by
  have hw : Region.wanted o (yielded ops a.tmps) = true := by simp [Region.wanted, hg]
  rw [if_pos hw]
  exact wp_append_ents w s x hop base v n xs hs hown hbase ao m c ys hx hE h0 hb hK
theorem rem_nat (a : Int) (l : Nat) (h : 0 < a) : a % ((l : Int) + 1) = ((a.toNat % (l + 1) : Nat) : Int) := by
  obtain ⟨n, rfl⟩ : ∃ n : Nat, a = n := ⟨a.toNat, by omega⟩
  rw [Int.toNat_natCast, Int.natCast_emod, Int.natCast_add]
  rfl
end Go.Proofs.YtaamekkbgaeafaaDoor
namespace Go.Proofs.YtaamekkbgaeafaaDoor
open Go.RowKit Go.Sort Go.Shelf
set_option linter.unusedSectionVars false
variable [Inhabited E] [DecidableEq E]
/-- The place of the first that is taken away: all, where there is none. -/
def firstDel (es : List E) : Nat := es.findIdx fun e => e.del
theorem firstDel_at {es : List E} {i : Nat} (hi : i < es.length) (h : es[i]!.del = true) (hb : ∀ j, j < i → es[j]!.del = false) : firstDel es = i := by
  unfold firstDel
  rw [List.findIdx_eq hi]
  refine ⟨by rw [getElem!_pos es i hi] at h; exact h, fun j hj => ?_⟩
  have := hb j hj
  rw [getElem!_pos es j (by omega)] at this
  exact this
theorem firstDel_none {es : List E} (hb : ∀ j, j < es.length → es[j]!.del = false) : firstDel es = es.length := by
  unfold firstDel
  rw [List.findIdx_eq_length]
  intro x hx
  obtain ⟨i, hi, rfl⟩ := List.getElem_of_mem hx
  have := hb i hi
  rwa [getElem!_pos es i hi] at this
theorem flatE_set : ∀ (L : List E) (i : Nat) (k v : ByteArray) (d : Bool) (q : Int), i < L.length → ((((flatE L).set (i * 4) (.string k)).set (i * 4 + 1) (.string v)).set (i * 4 + 2) (.bool d)).set (i * 4 + 3) (.int .i64 q) = flatE (L.set i ⟨k, v, d, q⟩)
  | [], i, _, _, _, _, h => absurd h (by simp)
  | e :: L, 0, k, v, d, q, _ => by
    rw [flatE_cons, List.set_cons_zero, flatE_cons]; rfl
  | e :: L, i + 1, k, v, d, q, h => by
    rw [flatE_cons, List.set_cons_succ, flatE_cons, ← flatE_set L i k v d q (by simpa using h)]
    have h4 : (encE e).length = 4 := rfl
    rw [List.set_append_right _ _ (by rw [h4]; omega), List.set_append_right _ _ (by rw [h4]; omega), List.set_append_right _ _ (by rw [h4]; omega), List.set_append_right _ _ (by rw [h4]; omega), h4]
    rw [show (i + 1) * 4 - 4 = i * 4 by omega, show (i + 1) * 4 + 1 - 4 = i * 4 + 1 by omega, show (i + 1) * 4 + 2 - 4 = i * 4 + 2 by omega, show (i + 1) * 4 + 3 - 4 = i * 4 + 3 by omega]
/-- An entry that is stored into an owned row. -/
theorem own_set {w : World} {base g n cap : Nat} {L : List E} (h : w.ownsRow base 29 4 (.slice (some ⟨g, 0, none⟩) n cap) n (flatE L)) (i : Nat) (hi : i < n) (k v : ByteArray) (d : Bool) (q : Int) :
    ((((w.setCell ⟨g, i * 4, none⟩ (.string k)).setCell ⟨g, i * 4 + 1, none⟩ (.string v)).setCell ⟨g, i * 4 + 2, none⟩ (.bool d)).setCell ⟨g, i * 4 + 3, none⟩ (.int .i64 q)).ownsRow base 29 4 (.slice (some ⟨g, 0, none⟩) n cap) n (flatE (L.set i ⟨k, v, d, q⟩)) := by
  have hl : i < L.length := by have := h.1; rw [flatE_len] at this; omega
  rw [← flatE_set L i k v d q hl]
  exact ((((h.stored _ _).1.stored _ _).1).stored _ _).1.stored _ _ |>.1
end Go.Proofs.YtaamekkbgaeafaaDoor

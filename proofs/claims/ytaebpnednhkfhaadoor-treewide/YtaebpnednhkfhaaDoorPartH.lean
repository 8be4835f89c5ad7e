/-
  The steps from a leaf upwards: plain mathematics, their rows, and what slices.Reverse does to them. What tree.stepsUp answers: a contract over this translation.
-/
import Derived.Test.YtaebpnednhkfhaaDoorPartG
import Derived.Shelf.SlicesQ.Reverse
import Derived.Test.YtaebpnednhkfhaaDoorNames
import Derived.Deep.DeepCutAuto
import Derived.Deep.RegionHeld3
namespace Go.Proofs
open Go.Shelf
def Tryd.revL_ren : Go.Shelf.Ren := ⟨fun | 35 => 84 | n => n, fun | 23 => 92 | 22 => 88 | 3 => 3 | 4 => 4 | 0 => 0 | n => n, fun | n => n⟩
theorem Tryd.revL : Go.Proofs.SlLaysE0.n35 Tryd.prog Tryd.revL_ren := {
  mixed := by kernel_rfl
  f35 := ⟨Tryd.f84.name, by decide, Tryd.func84.trans (congrArg some (by kernel_rfl))⟩
  t0 := Tryd.underlying0
  a0 := Tryd.isAgg0
  z0 := Tryd.sizeOf0
  v0 := Tryd.zeroValue0
  t3 := Tryd.underlying3
  a3 := Tryd.isAgg3
  z3 := Tryd.sizeOf3
  v3 := Tryd.zeroValue3
  t4 := Tryd.underlying4
  a4 := Tryd.isAgg4
  z4 := Tryd.sizeOf4
  v4 := Tryd.zeroValue4
  t22 := Tryd.underlying88
  a22 := Tryd.isAgg88
  z22 := Tryd.sizeOf88
  v22 := Tryd.zeroValue88 }
end Go.Proofs
namespace Go.Proofs.YtaebpnednhkfhaaDoor
open Go.RowKit Go.Sort Go.Shelf
/-- A step: the part beside, and whether what comes up stands at the right. -/
structure St where
  a : Nat
  b : Nat
  r : Bool
def fnS (r : Bool) : Value := .func (.func (if r then 83 else 26)) #[] #[]
def encS (p : St) : List Value := [.int .i64 (p.a : Int), .int .i64 (p.b : Int), fnS p.r]
theorem encS_len (p : St) : (encS p).length = 3 := rfl
theorem encS_one (p : St) : ∀ u ∈ encS p, u.oneCell' = true := by
  intro u hu
  simp only [encS, List.mem_cons, List.not_mem_nil, or_false] at hu
  rcases hu with rfl | rfl | rfl <;> rfl
/-- The steps from the root down to leaf i. -/
def dnF : Nat → Nat → Nat → Nat → List St
  | 0, _, _, _ => []
  | f + 1, a, b, i => if b - a ≤ 1 then [] else if i < a + halfN (b - a) then ⟨a + halfN (b - a), b, false⟩ :: dnF f a (a + halfN (b - a)) i else ⟨a, a + halfN (b - a), true⟩ :: dnF f (a + halfN (b - a)) b i
def dnL (a b i : Nat) : List St := dnF 64 a b i
def upL (n i : Nat) : List St := (dnL 0 n i).reverse
theorem dnF_fuel (i : Nat) : ∀ (k f g a b : Nat), b - a ≤ 2 ^ k → k < f → k < g → b ≤ 9223372036854775807 → dnF f a b i = dnF g a b i := by
  intro k
  induction k with
  | zero =>
    intro f g a b hk hf hg _
    obtain ⟨f, rfl⟩ : ∃ f', f = f' + 1 := ⟨f - 1, by omega⟩
    obtain ⟨g, rfl⟩ : ∃ g', g = g' + 1 := ⟨g - 1, by omega⟩
    rw [dnF, dnF, if_pos (by simpa using hk), if_pos (by simpa using hk)]
  | succ k ih =>
    intro f g a b hk hf hg hb
    obtain ⟨f, rfl⟩ : ∃ f', f = f' + 1 := ⟨f - 1, by omega⟩
    obtain ⟨g, rfl⟩ : ∃ g', g = g' + 1 := ⟨g - 1, by omega⟩
    rw [dnF, dnF]
    by_cases h1 : b - a ≤ 1
    · rw [if_pos h1, if_pos h1]
    · rw [if_neg h1, if_neg h1]
      obtain ⟨l1, l2⟩ := halfN_le (b - a) k (by omega) (by omega) hk
      obtain ⟨s1, s2, -, -, -⟩ := halfN_spec (b - a) (by omega) (by omega)
      rw [ih f g a (a + halfN (b - a)) (by omega) (by omega) (by omega) (by omega), ih f g (a + halfN (b - a)) b (by omega) (by omega) (by omega) hb]
theorem dnL_two {a b : Nat} (i : Nat) (h : 2 ≤ b - a) (hb : b ≤ 9223372036854775807) : dnL a b i = if i < a + halfN (b - a) then ⟨a + halfN (b - a), b, false⟩ :: dnL a (a + halfN (b - a)) i else ⟨a, a + halfN (b - a), true⟩ :: dnL (a + halfN (b - a)) b i := by
  have hp := pow63
  obtain ⟨l1, l2⟩ := halfN_le (b - a) 62 h (by omega) (by have : (2 : Nat) ^ (62 + 1) = 2 ^ 63 := rfl; omega)
  obtain ⟨s1, s2, -, -, -⟩ := halfN_spec (b - a) h (by omega)
  unfold dnL
  rw [dnF, if_neg (by omega), dnF_fuel i 62 63 64 a (a + halfN (b - a)) (by omega) (by omega) (by omega) (by omega), dnF_fuel i 62 63 64 (a + halfN (b - a)) b (by omega) (by omega) (by omega) hb]
theorem dnL_one {a b : Nat} (i : Nat) (h : b - a ≤ 1) : dnL a b i = [] := by unfold dnL; rw [dnF, if_pos h]
theorem dnF_len (i : Nat) : ∀ (f a b : Nat), (dnF f a b i).length ≤ f
  | 0, _, _ => Nat.le_refl _
  | f + 1, a, b => by
    rw [dnF]
    split
    · exact Nat.zero_le _
    · split
      · rw [List.length_cons]; have := dnF_len i f a (a + halfN (b - a)); omega
      · rw [List.length_cons]; have := dnF_len i f (a + halfN (b - a)) b; omega
theorem dnL_len (a b i : Nat) : (dnL a b i).length ≤ 64 := dnF_len i 64 a b
theorem upL_len (n i : Nat) : (upL n i).length ≤ 64 := by unfold upL; rw [List.length_reverse]; exact dnL_len _ _ _
theorem dnF_in (i : Nat) : ∀ (f a b : Nat), a ≤ i → i < b → b ≤ 9223372036854775807 → ∀ p ∈ dnF f a b i, a ≤ p.a ∧ p.a < p.b ∧ p.b ≤ b := by
  intro f
  induction f with
  | zero => intro a b _ _ _ p hp; cases hp
  | succ f ih =>
    intro a b ha hb hbb p hp
    rw [dnF] at hp
    split at hp
    · cases hp
    · rename_i h1
      obtain ⟨s1, s2, -, -, -⟩ := halfN_spec (b - a) (by omega) (by omega)
      split at hp
      · rename_i h2
        rcases List.mem_cons.1 hp with h | h
        · subst h
          exact ⟨by show a ≤ a + halfN (b - a); omega, by show a + halfN (b - a) < b; omega, Nat.le_refl _⟩
        · have := ih a (a + halfN (b - a)) ha h2 (by omega) p h; omega
      · rename_i h2
        rcases List.mem_cons.1 hp with h | h
        · subst h
          exact ⟨Nat.le_refl _, by show a < a + halfN (b - a); omega, by show a + halfN (b - a) ≤ b; omega⟩
        · have := ih (a + halfN (b - a)) b (by omega) hb hbb p h; omega
theorem upL_in {n i : Nat} (hi : i < n) (hn : n ≤ 9223372036854775807) : ∀ p ∈ upL n i, 0 ≤ p.a ∧ p.a < p.b ∧ p.b ≤ n := fun p hp => dnF_in i 64 0 n (Nat.zero_le _) hi hn p (List.mem_reverse.1 hp)
/-- The cells of steps. -/
def flatS (es : List St) : List Value := es.flatMap encS
theorem flatS_cons (e : St) (es : List St) : flatS (e :: es) = encS e ++ flatS es := by simp [flatS]
theorem flatS_append (a b : List St) : flatS (a ++ b) = flatS a ++ flatS b := by simp [flatS]
theorem flatS_len : ∀ es : List St, (flatS es).length = es.length * 3
  | [] => rfl
  | e :: es => by rw [flatS_cons, List.length_append, flatS_len es, encS_len, List.length_cons]; omega
theorem flatS_at [Inhabited St] : ∀ (es : List St) (i c : Nat), i < es.length → c < 3 → (flatS es)[i * 3 + c]? = (encS es[i]!)[c]?
  | [], i, c, h, _ => by simp at h
  | e :: es, 0, c, _, hc => by
    rw [flatS_cons, Nat.zero_mul, Nat.zero_add, List.getElem?_append_left (by rw [encS_len]; exact hc)]; rfl
  | e :: es, i + 1, c, h, hc => by
    rw [flatS_cons, List.getElem?_append_right (by rw [encS_len]; omega), encS_len, show (i + 1) * 3 + c - 3 = i * 3 + c by omega, flatS_at es i c (by simpa using h) hc]
    simp
theorem flatS_get [Inhabited St] (es : List St) (t : Nat) (h : t < es.length * 3) : (flatS es)[t]? = (encS es[t / 3]!)[t % 3]? := by
  have := flatS_at es (t / 3) (t % 3) (by omega) (by omega)
  rwa [show t / 3 * 3 + t % 3 = t by omega] at this
theorem encS_get! [Inhabited St] (e : St) (c : Nat) (h : c < 3) : (encS e)[c]? = some (encS e)[c]! := by
  rw [getElem!_pos _ c (by rw [encS_len]; exact h), List.getElem?_eq_getElem]
theorem info92 : (Tryd.prog.info? 92).map (fun i => (i.zero, i.size, i.bytes)) = some (some (.agg #[.int .i64 0, .int .i64 0, .nilFunc]), 3, 24) := by kernel_rfl
theorem get!_toListS [Inhabited St] (d : Array St) (i : Nat) : d.toList[i]! = d[i]! := by
  by_cases h : i < d.size
  · rw [getElem!_pos d i h, getElem!_pos d.toList i (by simpa using h)]; simp
  · rw [getElem!_neg d i h, getElem!_neg d.toList i (by simpa using h)]
theorem own_holdsS [Inhabited St] {w : World} {base g n cap : Nat} {d : Array St} (h : w.ownsRow base 92 3 (.slice (some ⟨g, 0, none⟩) n cap) n (flatS d.toList)) : HoldsK encS 3 w g 0 d := by
  intro t ht
  rw [size_flatK] at ht
  refine ⟨?_, ?_⟩
  · rw [get_flatK _ _ _ t ht]
    have := h.cells (g := g) rfl t ((encS d[t / 3]!)[t % 3]!) (by rw [flatS_get _ t (by simpa using ht), encS_get! _ _ (by omega), get!_toListS])
    rw [Addr.add_lit] at this
    exact this
  · obtain ⟨_, hh⟩ := h
    rcases hh with ⟨h0, _⟩ | ⟨g', cap', cur, hv, _, hg, _⟩
    · cases h0
    · cases hv
      exact frozen_of_row w g _ _ 92 hg
/-- Steps that lie at a slice. -/
def StV (w : World) (base : Nat) (ao : Option Addr) (l : List St) : Prop := 0 < l.length → ∃ g, ao = some ⟨g, 0, none⟩ ∧ base ≤ g ∧ ∀ i p, l[i]? = some p → w.cell? ⟨g, i * 3, none⟩ = some (.int .i64 (p.a : Int)) ∧ w.cell? ⟨g, i * 3 + 1, none⟩ = some (.int .i64 (p.b : Int)) ∧ w.cell? ⟨g, i * 3 + 2, none⟩ = some (fnS p.r)
theorem StV.below {w w' : World} {base B : Nat} {ao : Option Addr} {l : List St} (h : StV w base ao l) (hb : Below B w w') (hB : w.heap.size ≤ B) : StV w' base ao l := fun hp => by
  obtain ⟨g, h1, h2, h3⟩ := h hp
  exact ⟨g, h1, h2, fun i p hip => ⟨bel_cell2 hb hB (h3 i p hip).1, bel_cell2 hb hB (h3 i p hip).2.1, bel_cell2 hb hB (h3 i p hip).2.2⟩⟩
theorem holds_st [Inhabited St] {w : World} {g base : Nat} {d : Array St} (hg : base ≤ g) (h : HoldsK encS 3 w g 0 d) : StV w base (some ⟨g, 0, none⟩) d.toList := by
  intro _
  refine ⟨g, rfl, hg, fun i p hip => ?_⟩
  have hi : i < d.size := by simpa using (List.getElem?_eq_some_iff.1 hip).1
  have hp : d[i]! = p := by rw [getElem!_pos d i hi]; simpa [List.getElem?_eq_some_iff, hi] using hip
  have hc : ∀ c, c < 3 → w.cell? ⟨g, i * 3 + c, none⟩ = some (encS p)[c]! := fun c hc => by
    have := (h (i * 3 + c) (by rw [size_flatK]; omega)).1
    rw [get_flatK _ _ _ _ (by omega), show (i * 3 + c) / 3 = i by omega, show (i * 3 + c) % 3 = c by omega, hp, Nat.zero_add] at this
    exact this
  exact ⟨hc 0 (by omega), hc 1 (by omega), hc 2 (by omega)⟩
theorem bel_put [Inhabited St] (B : Nat) (w : World) (g off n : Nat) (d : Array St) (hg : B ≤ g) (_hB : B ≤ w.heap.size) : Below B w (putRowK encS 3 (Sort.ahead w n) g off d) := by
  refine ⟨rfl, rfl, rfl, by show w.heap.size ≤ (w.heap.modify g _).size; simp, fun k hk => ?_⟩
  show (w.heap.modify g _)[k]? = _
  rw [Array.getElem?_modify, if_neg (by omega)]
/-- slices.Reverse of steps. -/
theorem reverse_any [Inhabited St] (base : Nat) (v : Value) (l : List St) (w : World) (h : w.ownsRow base 92 3 v l.length (flatS l)) (hn : l.length ≤ 64) (hB : base ≤ w.heap.size) :
    Calls Tryd.prog 84 #[v] w fun e w' => e = .returned (.tuple #[]) ∧ (∃ ao c, v = .slice ao l.length c ∧ StV w' base ao l.reverse) ∧ Below base w w' := by
  have h' := h
  rcases h'.2 with ⟨h1, h2⟩ | ⟨g, cap, cur, h1, hg, _⟩
  · have hl : l = [] := List.eq_nil_of_length_eq_zero h2
    subst hl
    subst h1
    refine (AnyQ.slices_Reverse_empty Tryd.revL none 0 w).mono ?_
    rintro e w' ⟨rfl, rfl⟩
    exact ⟨rfl, ⟨none, 0, rfl, fun h => by simp at h⟩, Below.refl _ _⟩
  · subst h1
    have hH := own_holdsS (d := l.toArray) (by simpa using h)
    have hc := AnyQ.slices_Reverse Tryd.revL 3 Tryd.isAgg92 Tryd.sizeOf92 encS encS_len encS_one g 0 cap l.toArray w hH (by simp; omega)
    have e1 : l.toArray.size = l.length := by simp
    rw [e1] at hc
    refine hc.mono ?_
    rintro e w' ⟨rfl, n, rfl⟩
    refine ⟨rfl, ⟨_, cap, rfl, ?_⟩, bel_put _ _ _ _ _ _ hg hB⟩
    have hh := holdsK_putRowK encS 3 (Sort.ahead w n) g 0 l.toArray l.toArray.reverse (holdsK_ahead encS 3 w n g 0 l.toArray hH) (by simp)
    have := holds_st hg hh
    simpa using this
end Go.Proofs.YtaebpnednhkfhaaDoor
namespace Go.Proofs.YtaebpnednhkfhaaDoor
open Go.RowKit
/-- An owned row is told by its own block alone. -/
theorem own_keep {w w' : World} {base e sz n : Nat} {v : Value} {xs : List Value} (h : w.ownsRow base e sz v n xs) (hk : ∀ g, v.ownBlock = some g → w'.heap[g]? = w.heap[g]?) : w'.ownsRow base e sz v n xs := by
  refine ⟨h.1, ?_⟩
  rcases h.2 with h2 | ⟨g, cap, cur, hv, hg, hh, hr⟩
  · exact .inl h2
  · exact .inr ⟨g, cap, cur, hv, hg, (hk g (by rw [hv]; rfl)).trans hh, hr⟩
theorem step_laid (w : World) (p : St) : ∀ j u, (encS p)[j]? = some u → (w.alloc (.cells (encS p).toArray 92)).cell? ((⟨w.heap.size, 0, none⟩ : Addr).add j) = some u := by
  intro j u hu
  rw [Addr.add_lit, cell_of_row _ _ _ _ _ _ (heap_alloc_new w _)]
  simpa using hu
theorem span_row {w : World} {g a b : Nat} (h : w.heap[g]? = some (.cells #[.int .i64 (a : Int), .int .i64 (b : Int)] 78 (0, 0))) : w.cell? ⟨g, 0, none⟩ = some (.int .i64 (a : Int)) ∧ w.cell? ⟨g, 1, none⟩ = some (.int .i64 (b : Int)) :=
  ⟨by rw [cell_of_row _ _ 0 _ _ _ h]; rfl, by rw [cell_of_row _ _ 1 _ _ _ h]; rfl⟩
/-- What a round leaves: a step behind the others, and the part that the leaf is in. -/
theorem round_done {w w6 w7 : World} {g : Nat} {v : Value} {l2 : List St} {a2 b2 : Nat} (hown : w6.ownsRow (g + 1) 92 3 v l2.length (flatS l2)) {x y : Value} (hg : w6.heap[g]? = some (.cells #[x, y] 78 (0, 0))) (hb : Below g w w6)
    (h7 : w7 = (w6.setCell ⟨g, 0, none⟩ (.int .i64 (a2 : Int))).setCell ⟨g, 1, none⟩ (.int .i64 (b2 : Int))) :
    w7.heap[g]? = some (.cells #[.int .i64 (a2 : Int), .int .i64 (b2 : Int)] 78 (0, 0)) ∧ w7.ownsRow (g + 1) 92 3 v l2.length (flatS l2) ∧ Below g w w7 := by
  subst h7
  have hne : ∀ q, q ≠ g → ((w6.setCell ⟨g, 0, none⟩ (.int .i64 (a2 : Int))).setCell ⟨g, 1, none⟩ (.int .i64 (b2 : Int))).heap[q]? = w6.heap[q]? := fun q hq => by
    unfold World.setCell
    dsimp only
    rw [Array.getElem?_modify, if_neg (by omega), Array.getElem?_modify, if_neg (by omega)]
  refine ⟨?_, own_keep hown fun q hq => hne q (by have := (hown.lt q hq).1; omega), hb.trans ⟨rfl, rfl, rfl, by unfold World.setCell; simp, fun q hq => hne q (by omega)⟩⟩
  unfold World.setCell
  dsimp only
  rw [Array.getElem?_modify, if_pos rfl, Array.getElem?_modify, if_pos rfl, hg]
  rfl
set_option maxHeartbeats 4000000 in
set_option maxRecDepth 100000 in
theorem steps_any (n i : Nat) (w : World) (hi0 : i < n) (hn : n ≤ 9223372036854775807) :
    Calls Tryd.prog 65 #[.int .i64 (n : Int), .int .i64 (i : Int)] w fun e w' => ∃ ao c, e = .returned (.slice ao (upL n i).length c) ∧ StV w' w.heap.size ao (upL n i) ∧ Below w.heap.size w w' := by
  obtain ⟨i0, hi, hz0, hz1, hz2⟩ := info_parts info92
  have HLT : Hid (i < n ∧ n ≤ 9223372036854775807) := ⟨hi0, hn⟩
  clear hi0 hn
  obtain ⟨W0, HW0⟩ : ∃ W, Hid (W = w.alloc (.cells #[.int .i64 0, .int .i64 (n : Int)] 78)) := ⟨_, rfl⟩
  have HB0 : Hid (Below w.heap.size w W0) := by show Below _ _ _; rw [HW0.out]; exact bel_alloc _ _
  have HN0 : Hid (W0.heap[w.heap.size]? = some (.cells #[.int .i64 ((0 : Nat) : Int), .int .i64 (n : Int)] 78 (0, 0))) := by show _ = _; rw [HW0.out]; exact heap_alloc_new w _
  have HZ0 : Hid (W0.heap.size = w.heap.size + 1) := by show _ = _; rw [HW0.out]; simp
  go_enter Tryd.func65, Tryd.ntmps65
  go_wp2_with fail
  go_loopw [5, 7, 8] (fun s5 _ _ wr => ∃ (a b : Nat) (l : List St), Hid (wr.heap[w.heap.size]? = some (.cells #[.int .i64 (a : Int), .int .i64 (b : Int)] 78 (0, 0))) ∧ Hid (a ≤ i ∧ i < b ∧ b ≤ n) ∧ Hid (l ++ dnL a b i = dnL 0 n i) ∧ Hid (wr.ownsRow (w.heap.size + 1) 92 3 s5 l.length (flatS l)) ∧ Hid (Below w.heap.size w wr)) (fun _ _ _ wr => (intOf ((wr.cell? ⟨w.heap.size, 1, none⟩).getD undef) - intOf ((wr.cell? ⟨w.heap.size, 0, none⟩).getD undef)).toNat)
  case atStart =>
    rw [← HW0.out]
    exact ⟨0, n, [], HN0, ⟨Nat.zero_le _, HLT.out.1, Nat.le_refl _⟩, rfl, World.ownsRow_nil _ _ _ _, HB0⟩
  case round =>
    obtain ⟨a, b, l, HR, HAB, HDN, HOW, HBE⟩ := hrel
    have c0 : wr.cell? ⟨w.heap.size, 0, none⟩ = some (.int .i64 (a : Int)) := by rw [cell_of_row _ _ 0 _ _ _ HR.out]; rfl
    have c1 : wr.cell? ⟨w.heap.size, 1, none⟩ = some (.int .i64 (b : Int)) := by rw [cell_of_row _ _ 1 _ _ _ HR.out]; rfl
    have hsub : wrap64 ((b : Int) - (a : Int)) = ((b - a : Nat) : Int) := by have := HAB.out; have := HLT.out; unfold wrap64; omega
    by_cases h2 : 2 ≤ b - a
    case neg =>
      have hgt : ¬ (1 : Int) < ((b - a : Nat) : Int) := by omega
      have HLL : Hid (l = dnL 0 n i) := by have h := HDN.out; rw [dnL_one i (by omega), List.append_nil] at h; exact h
      have HRV : Hid (∀ W, W = wr → Calls Tryd.prog 84 #[u5] W fun e w' => e = .returned (.tuple #[]) ∧ (∃ ao c, u5 = .slice ao l.length c ∧ StV w' (w.heap.size + 1) ao l.reverse) ∧ Below (w.heap.size + 1) wr w') := fun W hW => by
        rw [hW]
        have hlt := World.block_lt_of_cell? _ _ c0
        haveI : Inhabited St := ⟨⟨0, 0, false⟩⟩
        exact reverse_any (w.heap.size + 1) u5 l wr HOW.out (by rw [HLL.out]; exact dnL_len _ _ _) hlt
      clear h2
      go_wp2_with fail
      refine (HRV.out _ rfl).mono ?_
      rintro e w2 ⟨rfl, ⟨ao, c, rfl, hst⟩, hb2⟩
      have HST : Hid (StV w2 (w.heap.size + 1) ao l.reverse) := hst
      have HB2 : Hid (Below (w.heap.size + 1) wr w2) := hb2
      clear hst hb2 hsub hgt c0 c1
      go_wp2_with fail
      go_ret
      have hup : upL n i = l.reverse := by rw [HLL.out]; rfl
      rw [hup, List.length_reverse]
      refine ⟨_, _, rfl, fun hp => ?_, HBE.out.trans (HB2.out.mono (by omega))⟩
      obtain ⟨g, h1, h2, h3⟩ := HST.out hp
      exact ⟨g, h1, by omega, h3⟩
    case pos =>
      have hgt : (1 : Int) < ((b - a : Nat) : Int) := by omega
      obtain ⟨s1, s2, -, -, -⟩ := halfN_spec (b - a) h2 (by have := HAB.out; have := HLT.out; omega)
      have HH : Hid (∀ W, Calls Tryd.prog 58 #[.agg #[.int .i64 (a : Int), .int .i64 (b : Int)]] W fun e w' => e = .returned (.tuple #[sv a (a + halfN (b - a)), sv (a + halfN (b - a)) b]) ∧ Below W.heap.size W w') := fun W => halves_any a b W (by omega) (by have := HAB.out; have := HLT.out; omega)
      have HD2 := dnL_two i h2 (by have := HAB.out; have := HLT.out; omega)
      obtain ⟨m, HM⟩ : ∃ m, Hid (a + halfN (b - a) = m) := ⟨_, rfl⟩
      rw [HM.out] at HH HD2
      have HMM : Hid (a < m ∧ m < b) := by have := HM.out; show _ ∧ _; omega
      have HD2 : Hid _ := HD2
      unfold sv at HH
      clear s1 s2
      go_wp2_with fail
      refine (HH.out _).mono ?_
      rintro e w1 ⟨rfl, hb1⟩
      have HB1 : Hid (Below wr.heap.size wr w1) := hb1
      clear hb1 c0 c1 hgt h2 hsub
      go_upto_region 5 with fail
      obtain ⟨W4, HW4⟩ : ∃ W, Hid (W = (w1.alloc (.cells #[.int .i64 (a : Int), .int .i64 (m : Int)] 78)).alloc (.cells #[.int .i64 (m : Int), .int .i64 (b : Int)] 78)) := ⟨_, rfl⟩
      obtain ⟨d0, d1, d2, d3, hb4⟩ := two_cells w1 a m m b W4 HW4.out
      rw [← HW4.out]
      have HBR : Hid (Below wr.heap.size wr W4) := HB1.out.trans (hb4.mono HB1.out.size)
      have HGL : Hid (w.heap.size < wr.heap.size) := by
        have h := HR.out
        have := (Array.getElem?_eq_some_iff.1 h).1
        exact this
      have HF4 : Hid _ := And.intro d0 d1
      clear hb4
      by_cases him : i < m
      case pos =>
        have himz : (i : Int) < (m : Int) := by omega
        have HDN2 : Hid ((l ++ [(⟨m, b, false⟩ : St)]) ++ dnL a m i = dnL 0 n i) := by
          have h := HDN.out
          rw [HD2.out, if_pos him] at h
          rw [List.append_assoc]
          exact h
        have HAB2 : Hid (a ≤ i ∧ i < m ∧ m ≤ n) := by have := HAB.out; have := HMM.out; show _ ∧ _; omega
        have HLN : Hid (l.length ≤ 64) := by
          have h := congrArg List.length HDN.out
          rw [List.length_append] at h
          have := dnL_len 0 n i
          show _ ≤ _
          omega
        have HOA : Hid ((W4.alloc (.cells (encS ⟨m, b, false⟩).toArray 92)).ownsRow (w.heap.size + 1) 92 3 u5 l.length (flatS l)) := (own_below HOW.out HBR.out (Nat.le_refl _)).alloc _
        have HCA : Hid (∀ j u, (encS ⟨m, b, false⟩)[j]? = some u → (W4.alloc (.cells (encS ⟨m, b, false⟩).toArray 92)).cell? ((⟨W4.heap.size, 0, none⟩ : Addr).add j) = some u) := step_laid W4 ⟨m, b, false⟩
        have HBA : Hid (w.heap.size + 1 ≤ (W4.alloc (.cells (encS ⟨m, b, false⟩).toArray 92)).heap.size) := by show _ ≤ _; have := HGL.out; have := HBR.out.size; simp; omega
        clear him
        go_wp2_with (at_builtin; refine wpList_append_own _ rfl (.tmp 26) (.tmp 29) 88 rfl (w.heap.size + 1) 92 i0 _ 3 24 Tryd.underlying88 hi hz0 hz1 hz2 rfl (by decide) _ l.length (flatS l) rfl HOA.out ⟨W4.heap.size, 0, none⟩ 1 1 (encS ⟨m, b, false⟩) rfl rfl HCA.out (encS_one _) (by have := HLN.out; unfold maxLen; omega) (by have := HLN.out; omega) HBA.out ?_)
        intro v6 w6 hown6 hgr6 _
        have HOB : Hid (∀ q, u5.ownBlock = some q → w.heap.size + 1 ≤ q ∧ q < wr.heap.size) := fun q hq => HOW.out.lt q hq
        have HK6 : Hid (∀ q, q < W4.heap.size → (q ≤ w.heap.size ∨ wr.heap.size ≤ q) → w6.heap[q]? = W4.heap[q]?) := fun q hq hor => by
          rw [hgr6.block q (by simp; omega) (fun e => by have := HOB.out q e.symm; omega)]
          exact Below.heap_alloc _ _ _ hq
        have HR6 : Hid (w6.heap[w.heap.size]? = some (.cells #[.int .i64 (a : Int), .int .i64 (b : Int)] 78 (0, 0))) := by
          show _ = _
          have h1 := HGL.out
          have h2 := HBR.out.size
          rw [HK6.out _ (by omega) (Or.inl (Nat.le_refl _)), HBR.out.block _ h1]
          exact HR.out
        have hlt4 : w1.heap.size < W4.heap.size := World.block_lt_of_cell? _ _ d0
        have hge4 : wr.heap.size ≤ w1.heap.size := by have := HB1.out.size; omega
        have e0 : w6.cell? ⟨w1.heap.size, 0, none⟩ = some (.int .i64 (a : Int)) := (World.cell?_of_block (w := W4) (HK6.out (w1.heap.size) hlt4 (Or.inr hge4))).trans d0
        have e1 : w6.cell? ⟨w1.heap.size, 1, none⟩ = some (.int .i64 (m : Int)) := (World.cell?_of_block (w := W4) (HK6.out (w1.heap.size) hlt4 (Or.inr hge4))).trans d1
        have HO6 : Hid (w6.ownsRow (w.heap.size + 1) 92 3 v6 (l ++ [(⟨m, b, false⟩ : St)]).length (flatS (l ++ [(⟨m, b, false⟩ : St)]))) := by
          show World.ownsRow _ _ _ _ _ _ _
          rw [flatS_append, List.length_append]
          simpa [flatS] using hown6
        have HB6 : Hid (Below w.heap.size w w6) := (HBE.out.trans (HBR.out.mono HBE.out.size)).trans (((bel_alloc W4 _).mono (Nat.le_trans HBE.out.size HBR.out.size)).grown hgr6 (by have := HBE.out.size; have := HBR.out.size; simp; omega) (fun k hk => by have := HOB.out k hk; omega))
        clear hown6 hgr6 hlt4 hge4 d0 d1 d2 d3
        obtain ⟨f0, f1⟩ := span_row HR6.out
        have z0 := frozen_of_row w6 _ 0 _ _ HR6.out
        have z1 := frozen_of_row w6 _ 1 _ _ HR6.out
        go_wp2_with fail
        obtain ⟨r1, r2, r3⟩ := round_done (a2 := a) (b2 := m) HO6.out HR6.out HB6.out rfl
        obtain ⟨k0, k1⟩ := span_row r1
        obtain ⟨j0, j1⟩ := span_row HR.out
        refine ⟨⟨a, m, _, r1, HAB2, HDN2, r2, r3⟩, ?_⟩
        rw [k0, k1, j0, j1]
        have := HMM.out
        simp [intOf]
        omega
      case neg =>
        have himz : ¬ (i : Int) < (m : Int) := by omega
        have HDN2 : Hid ((l ++ [(⟨a, m, true⟩ : St)]) ++ dnL m b i = dnL 0 n i) := by
          have h := HDN.out
          rw [HD2.out, if_neg him] at h
          rw [List.append_assoc]
          exact h
        have HAB2 : Hid (m ≤ i ∧ i < b ∧ b ≤ n) := by have := HAB.out; have := HMM.out; show _ ∧ _; omega
        have HLN : Hid (l.length ≤ 64) := by
          have h := congrArg List.length HDN.out
          rw [List.length_append] at h
          have := dnL_len 0 n i
          show _ ≤ _
          omega
        have HOA : Hid ((W4.alloc (.cells (encS ⟨a, m, true⟩).toArray 92)).ownsRow (w.heap.size + 1) 92 3 u5 l.length (flatS l)) := (own_below HOW.out HBR.out (Nat.le_refl _)).alloc _
        have HCA : Hid (∀ j u, (encS ⟨a, m, true⟩)[j]? = some u → (W4.alloc (.cells (encS ⟨a, m, true⟩).toArray 92)).cell? ((⟨W4.heap.size, 0, none⟩ : Addr).add j) = some u) := step_laid W4 ⟨a, m, true⟩
        have HBA : Hid (w.heap.size + 1 ≤ (W4.alloc (.cells (encS ⟨a, m, true⟩).toArray 92)).heap.size) := by show _ ≤ _; have := HGL.out; have := HBR.out.size; simp; omega
        clear him
        go_wp2_with (at_builtin; refine wpList_append_own _ rfl (.tmp 32) (.tmp 35) 88 rfl (w.heap.size + 1) 92 i0 _ 3 24 Tryd.underlying88 hi hz0 hz1 hz2 rfl (by decide) _ l.length (flatS l) rfl HOA.out ⟨W4.heap.size, 0, none⟩ 1 1 (encS ⟨a, m, true⟩) rfl rfl HCA.out (encS_one _) (by have := HLN.out; unfold maxLen; omega) (by have := HLN.out; omega) HBA.out ?_)
        intro v6 w6 hown6 hgr6 _
        have HOB : Hid (∀ q, u5.ownBlock = some q → w.heap.size + 1 ≤ q ∧ q < wr.heap.size) := fun q hq => HOW.out.lt q hq
        have HK6 : Hid (∀ q, q < W4.heap.size → (q ≤ w.heap.size ∨ wr.heap.size ≤ q) → w6.heap[q]? = W4.heap[q]?) := fun q hq hor => by
          rw [hgr6.block q (by simp; omega) (fun e => by have := HOB.out q e.symm; omega)]
          exact Below.heap_alloc _ _ _ hq
        have HR6 : Hid (w6.heap[w.heap.size]? = some (.cells #[.int .i64 (a : Int), .int .i64 (b : Int)] 78 (0, 0))) := by
          show _ = _
          have h1 := HGL.out
          have h2 := HBR.out.size
          rw [HK6.out _ (by omega) (Or.inl (Nat.le_refl _)), HBR.out.block _ h1]
          exact HR.out
        have hlt4 : w1.heap.size + 1 < W4.heap.size := World.block_lt_of_cell? _ _ d2
        have hge4 : wr.heap.size ≤ w1.heap.size + 1 := by have := HB1.out.size; omega
        have e0 : w6.cell? ⟨w1.heap.size + 1, 0, none⟩ = some (.int .i64 (m : Int)) := (World.cell?_of_block (w := W4) (HK6.out (w1.heap.size + 1) hlt4 (Or.inr hge4))).trans d2
        have e1 : w6.cell? ⟨w1.heap.size + 1, 1, none⟩ = some (.int .i64 (b : Int)) := (World.cell?_of_block (w := W4) (HK6.out (w1.heap.size + 1) hlt4 (Or.inr hge4))).trans d3
        have HO6 : Hid (w6.ownsRow (w.heap.size + 1) 92 3 v6 (l ++ [(⟨a, m, true⟩ : St)]).length (flatS (l ++ [(⟨a, m, true⟩ : St)]))) := by
          show World.ownsRow _ _ _ _ _ _ _
          rw [flatS_append, List.length_append]
          simpa [flatS] using hown6
        have HB6 : Hid (Below w.heap.size w w6) := (HBE.out.trans (HBR.out.mono HBE.out.size)).trans (((bel_alloc W4 _).mono (Nat.le_trans HBE.out.size HBR.out.size)).grown hgr6 (by have := HBE.out.size; have := HBR.out.size; simp; omega) (fun k hk => by have := HOB.out k hk; omega))
        clear hown6 hgr6 hlt4 hge4 d0 d1 d2 d3
        obtain ⟨f0, f1⟩ := span_row HR6.out
        have z0 := frozen_of_row w6 _ 0 _ _ HR6.out
        have z1 := frozen_of_row w6 _ 1 _ _ HR6.out
        go_wp2_with fail
        obtain ⟨r1, r2, r3⟩ := round_done (a2 := m) (b2 := b) HO6.out HR6.out HB6.out rfl
        obtain ⟨k0, k1⟩ := span_row r1
        obtain ⟨j0, j1⟩ := span_row HR.out
        refine ⟨⟨m, b, _, r1, HAB2, HDN2, r2, r3⟩, ?_⟩
        rw [k0, k1, j0, j1]
        have := HMM.out
        simp [intOf]
        omega
end Go.Proofs.YtaebpnednhkfhaaDoor

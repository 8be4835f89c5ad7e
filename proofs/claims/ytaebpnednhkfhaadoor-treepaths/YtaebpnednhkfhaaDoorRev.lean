/-
  The steps from a leaf upwards: plain mathematics, their rows, and what slices.Reverse does to them.
-/
import Derived.Test.YtaebpnednhkfhaaDoorOutW
import Derived.Shelf.SlicesQ.Reverse
namespace Go.Proofs
open Go.Shelf
def Tryd.revL_ren : Go.Shelf.Ren := ⟨fun | 35 => 84 | n => n, fun | 23 => 92 | 22 => 88 | 3 => 3 | 4 => 4 | 0 => 0 | n => n, fun | n => n⟩
theorem Tryd.revL : Go.Proofs.SlLaysE0.n35 Tryd.prog Tryd.revL_ren := {
  mixed := by kernel_rfl
  f35 := ⟨Tryd.f84.name, by decide, Tryd.func84.trans (congrArg some (by kernel_rfl))⟩
  t0 := Tryd.underlying0
  a0 := Tryd.isAgg0
  z0 := Tryd.sizeOf0
  v0 := Tryd.zeroValue0
  t3 := Tryd.underlying3
  a3 := Tryd.isAgg3
  z3 := Tryd.sizeOf3
  v3 := Tryd.zeroValue3
  t4 := Tryd.underlying4
  a4 := Tryd.isAgg4
  z4 := Tryd.sizeOf4
  v4 := Tryd.zeroValue4
  t22 := Tryd.underlying88
  a22 := Tryd.isAgg88
  z22 := Tryd.sizeOf88
  v22 := Tryd.zeroValue88 }
end Go.Proofs
namespace Go.Proofs.YtaebpnednhkfhaaDoor
open Go.RowKit Go.Sort Go.Shelf
/-- A step: the part beside, and whether what comes up stands at the right. -/
structure St where
  a : Nat
  b : Nat
  r : Bool
deriving Inhabited
def fnS (r : Bool) : Value := .func (.func (if r then 83 else 26)) #[] #[]
def encS (p : St) : List Value := [.int .i64 (p.a : Int), .int .i64 (p.b : Int), fnS p.r]
theorem encS_len (p : St) : (encS p).length = 3 := rfl
theorem encS_one (p : St) : ∀ u ∈ encS p, u.oneCell' = true := by
  intro u hu
  simp only [encS, List.mem_cons, List.not_mem_nil, or_false] at hu
  rcases hu with rfl | rfl | rfl <;> rfl
/-- The steps from the root down to leaf i. -/
def dnF : Nat → Nat → Nat → Nat → List St
  | 0, _, _, _ => []
  | f + 1, a, b, i => if b - a ≤ 1 then [] else if i < a + halfN (b - a) then ⟨a + halfN (b - a), b, false⟩ :: dnF f a (a + halfN (b - a)) i else ⟨a, a + halfN (b - a), true⟩ :: dnF f (a + halfN (b - a)) b i
def dnL (a b i : Nat) : List St := dnF 64 a b i
def upL (n i : Nat) : List St := (dnL 0 n i).reverse
theorem dnF_fuel (i : Nat) : ∀ (k f g a b : Nat), b - a ≤ 2 ^ k → k < f → k < g → b ≤ 9223372036854775807 → dnF f a b i = dnF g a b i := by
  intro k
  induction k with
  | zero =>
    intro f g a b hk hf hg _
    obtain ⟨f, rfl⟩ : ∃ f', f = f' + 1 := ⟨f - 1, by omega⟩
    obtain ⟨g, rfl⟩ : ∃ g', g = g' + 1 := ⟨g - 1, by omega⟩
    rw [dnF, dnF, if_pos (by simpa using hk), if_pos (by simpa using hk)]
  | succ k ih =>
    intro f g a b hk hf hg hb
    obtain ⟨f, rfl⟩ : ∃ f', f = f' + 1 := ⟨f - 1, by omega⟩
    obtain ⟨g, rfl⟩ : ∃ g', g = g' + 1 := ⟨g - 1, by omega⟩
    rw [dnF, dnF]
    by_cases h1 : b - a ≤ 1
    · rw [if_pos h1, if_pos h1]
    · rw [if_neg h1, if_neg h1]
      obtain ⟨l1, l2⟩ := halfN_le (b - a) k (by omega) (by omega) hk
      obtain ⟨s1, s2, -, -, -⟩ := halfN_spec (b - a) (by omega) (by omega)
      rw [ih f g a (a + halfN (b - a)) (by omega) (by omega) (by omega) (by omega), ih f g (a + halfN (b - a)) b (by omega) (by omega) (by omega) hb]
theorem dnL_two {a b : Nat} (i : Nat) (h : 2 ≤ b - a) (hb : b ≤ 9223372036854775807) : dnL a b i = if i < a + halfN (b - a) then ⟨a + halfN (b - a), b, false⟩ :: dnL a (a + halfN (b - a)) i else ⟨a, a + halfN (b - a), true⟩ :: dnL (a + halfN (b - a)) b i := by
  have hp := pow63
  obtain ⟨l1, l2⟩ := halfN_le (b - a) 62 h (by omega) (by have : (2 : Nat) ^ (62 + 1) = 2 ^ 63 := rfl; omega)
  obtain ⟨s1, s2, -, -, -⟩ := halfN_spec (b - a) h (by omega)
  unfold dnL
  rw [dnF, if_neg (by omega), dnF_fuel i 62 63 64 a (a + halfN (b - a)) (by omega) (by omega) (by omega) (by omega), dnF_fuel i 62 63 64 (a + halfN (b - a)) b (by omega) (by omega) (by omega) hb]
theorem dnL_one {a b : Nat} (i : Nat) (h : b - a ≤ 1) : dnL a b i = [] := by unfold dnL; rw [dnF, if_pos h]
theorem dnF_len (i : Nat) : ∀ (f a b : Nat), (dnF f a b i).length ≤ f
  | 0, _, _ => Nat.le_refl _
  | f + 1, a, b => by
    rw [dnF]
    split
    · exact Nat.zero_le _
    · split
      · rw [List.length_cons]; have := dnF_len i f a (a + halfN (b - a)); omega
      · rw [List.length_cons]; have := dnF_len i f (a + halfN (b - a)) b; omega
theorem dnL_len (a b i : Nat) : (dnL a b i).length ≤ 64 := dnF_len i 64 a b
theorem upL_len (n i : Nat) : (upL n i).length ≤ 64 := by unfold upL; rw [List.length_reverse]; exact dnL_len _ _ _
theorem dnF_in (i : Nat) : ∀ (f a b : Nat), a ≤ i → i < b → b ≤ 9223372036854775807 → ∀ p ∈ dnF f a b i, a ≤ p.a ∧ p.a < p.b ∧ p.b ≤ b := by
  intro f
  induction f with
  | zero => intro a b _ _ _ p hp; cases hp
  | succ f ih =>
    intro a b ha hb hbb p hp
    rw [dnF] at hp
    split at hp
    · cases hp
    · rename_i h1
      obtain ⟨s1, s2, -, -, -⟩ := halfN_spec (b - a) (by omega) (by omega)
      split at hp
      · rename_i h2
        rcases List.mem_cons.1 hp with h | h
        · subst h
          exact ⟨by show a ≤ a + halfN (b - a); omega, by show a + halfN (b - a) < b; omega, Nat.le_refl _⟩
        · have := ih a (a + halfN (b - a)) ha h2 (by omega) p h; omega
      · rename_i h2
        rcases List.mem_cons.1 hp with h | h
        · subst h
          exact ⟨Nat.le_refl _, by show a < a + halfN (b - a); omega, by show a + halfN (b - a) ≤ b; omega⟩
        · have := ih (a + halfN (b - a)) b (by omega) hb hbb p h; omega
theorem upL_in {n i : Nat} (hi : i < n) (hn : n ≤ 9223372036854775807) : ∀ p ∈ upL n i, 0 ≤ p.a ∧ p.a < p.b ∧ p.b ≤ n := fun p hp => dnF_in i 64 0 n (Nat.zero_le _) hi hn p (List.mem_reverse.1 hp)
/-- The cells of steps. -/
def flatS (es : List St) : List Value := es.flatMap encS
theorem flatS_cons (e : St) (es : List St) : flatS (e :: es) = encS e ++ flatS es := by simp [flatS]
theorem flatS_append (a b : List St) : flatS (a ++ b) = flatS a ++ flatS b := by simp [flatS]
theorem flatS_len : ∀ es : List St, (flatS es).length = es.length * 3
  | [] => rfl
  | e :: es => by rw [flatS_cons, List.length_append, flatS_len es, encS_len, List.length_cons]; omega
theorem flatS_at : ∀ (es : List St) (i c : Nat), i < es.length → c < 3 → (flatS es)[i * 3 + c]? = (encS es[i]!)[c]?
  | [], i, c, h, _ => by simp at h
  | e :: es, 0, c, _, hc => by
    rw [flatS_cons, Nat.zero_mul, Nat.zero_add, List.getElem?_append_left (by rw [encS_len]; exact hc)]; rfl
  | e :: es, i + 1, c, h, hc => by
    rw [flatS_cons, List.getElem?_append_right (by rw [encS_len]; omega), encS_len, show (i + 1) * 3 + c - 3 = i * 3 + c by omega, flatS_at es i c (by simpa using h) hc]
    simp
theorem flatS_get (es : List St) (t : Nat) (h : t < es.length * 3) : (flatS es)[t]? = (encS es[t / 3]!)[t % 3]? := by
  have := flatS_at es (t / 3) (t % 3) (by omega) (by omega)
  rwa [show t / 3 * 3 + t % 3 = t by omega] at this
theorem encS_get! (e : St) (c : Nat) (h : c < 3) : (encS e)[c]? = some (encS e)[c]! := by
  rw [getElem!_pos _ c (by rw [encS_len]; exact h), List.getElem?_eq_getElem]
theorem info92 : (Tryd.prog.info? 92).map (fun i => (i.zero, i.size, i.bytes)) = some (some (.agg #[.int .i64 0, .int .i64 0, .nilFunc]), 3, 24) := by kernel_rfl
theorem get!_toListS (d : Array St) (i : Nat) : d.toList[i]! = d[i]! := by
  by_cases h : i < d.size
  · rw [getElem!_pos d i h, getElem!_pos d.toList i (by simpa using h)]; simp
  · rw [getElem!_neg d i h, getElem!_neg d.toList i (by simpa using h)]
theorem own_holdsS {w : World} {base g n cap : Nat} {d : Array St} (h : w.ownsRow base 92 3 (.slice (some ⟨g, 0, none⟩) n cap) n (flatS d.toList)) : HoldsK encS 3 w g 0 d := by
  intro t ht
  rw [size_flatK] at ht
  refine ⟨?_, ?_⟩
  · rw [get_flatK _ _ _ t ht]
    have := h.cells (g := g) rfl t ((encS d[t / 3]!)[t % 3]!) (by rw [flatS_get _ t (by simpa using ht), encS_get! _ _ (by omega), get!_toListS])
    rw [Addr.add_lit] at this
    exact this
  · obtain ⟨_, hh⟩ := h
    rcases hh with ⟨h0, _⟩ | ⟨g', cap', cur, hv, _, hg, _⟩
    · cases h0
    · cases hv
      exact frozen_of_row w g _ _ 92 hg
/-- Steps that lie at a slice. -/
def StV (w : World) (base : Nat) (ao : Option Addr) (l : List St) : Prop := 0 < l.length → ∃ g, ao = some ⟨g, 0, none⟩ ∧ base ≤ g ∧ ∀ i p, l[i]? = some p → w.cell? ⟨g, i * 3, none⟩ = some (.int .i64 (p.a : Int)) ∧ w.cell? ⟨g, i * 3 + 1, none⟩ = some (.int .i64 (p.b : Int)) ∧ w.cell? ⟨g, i * 3 + 2, none⟩ = some (fnS p.r)
theorem StV.below {w w' : World} {base B : Nat} {ao : Option Addr} {l : List St} (h : StV w base ao l) (hb : Below B w w') (hB : w.heap.size ≤ B) : StV w' base ao l := fun hp => by
  obtain ⟨g, h1, h2, h3⟩ := h hp
  exact ⟨g, h1, h2, fun i p hip => ⟨bel_cell2 hb hB (h3 i p hip).1, bel_cell2 hb hB (h3 i p hip).2.1, bel_cell2 hb hB (h3 i p hip).2.2⟩⟩
theorem holds_st {w : World} {g base : Nat} {d : Array St} (hg : base ≤ g) (h : HoldsK encS 3 w g 0 d) : StV w base (some ⟨g, 0, none⟩) d.toList := by
  intro _
  refine ⟨g, rfl, hg, fun i p hip => ?_⟩
  have hi : i < d.size := by simpa using (List.getElem?_eq_some_iff.1 hip).1
  have hp : d[i]! = p := by rw [getElem!_pos d i hi]; simpa [List.getElem?_eq_some_iff, hi] using hip
  have hc : ∀ c, c < 3 → w.cell? ⟨g, i * 3 + c, none⟩ = some (encS p)[c]! := fun c hc => by
    have := (h (i * 3 + c) (by rw [size_flatK]; omega)).1
    rw [get_flatK _ _ _ _ (by omega), show (i * 3 + c) / 3 = i by omega, show (i * 3 + c) % 3 = c by omega, hp, Nat.zero_add] at this
    exact this
  exact ⟨hc 0 (by omega), hc 1 (by omega), hc 2 (by omega)⟩
theorem bel_put (B : Nat) (w : World) (g off n : Nat) (d : Array St) (hg : B ≤ g) (_hB : B ≤ w.heap.size) : Below B w (putRowK encS 3 (Sort.ahead w n) g off d) := by
  refine ⟨rfl, rfl, rfl, by show w.heap.size ≤ (w.heap.modify g _).size; simp, fun k hk => ?_⟩
  show (w.heap.modify g _)[k]? = _
  rw [Array.getElem?_modify, if_neg (by omega)]
/-- slices.Reverse of steps. -/
theorem reverse_any (base : Nat) (v : Value) (l : List St) (w : World) (h : w.ownsRow base 92 3 v l.length (flatS l)) (hn : l.length ≤ 64) (hB : base ≤ w.heap.size) :
    Calls Tryd.prog 84 #[v] w fun e w' => e = .returned (.tuple #[]) ∧ (∃ ao c, v = .slice ao l.length c ∧ StV w' base ao l.reverse) ∧ Below base w w' := by
  have h' := h
  rcases h'.2 with ⟨h1, h2⟩ | ⟨g, cap, cur, h1, hg, _⟩
  · have hl : l = [] := List.eq_nil_of_length_eq_zero h2
    subst hl
    subst h1
    refine (AnyQ.slices_Reverse_empty Tryd.revL none 0 w).mono ?_
    rintro e w' ⟨rfl, rfl⟩
    exact ⟨rfl, ⟨none, 0, rfl, fun h => by simp at h⟩, Below.refl _ _⟩
  · subst h1
    have hH := own_holdsS (d := l.toArray) (by simpa using h)
    have hc := AnyQ.slices_Reverse Tryd.revL 3 Tryd.isAgg92 Tryd.sizeOf92 encS encS_len encS_one g 0 cap l.toArray w hH (by simp; omega)
    have e1 : l.toArray.size = l.length := by simp
    rw [e1] at hc
    refine hc.mono ?_
    rintro e w' ⟨rfl, n, rfl⟩
    refine ⟨rfl, ⟨_, cap, rfl, ?_⟩, bel_put _ _ _ _ _ _ hg hB⟩
    have hh := holdsK_putRowK encS 3 (Sort.ahead w n) g 0 l.toArray l.toArray.reverse (holdsK_ahead encS 3 w n g 0 l.toArray hH) (by simp)
    have := holds_st hg hh
    simpa using this
end Go.Proofs.YtaebpnednhkfhaaDoor

/-
  What tree.filling's root answers: a contract over this translation.
-/
import Derived.Test.YtaebpnednhkfhaaDoorFillT
namespace Go.Proofs.YtaebpnednhkfhaaDoor
open Go.RowKit
/-- The root of a part, of leaves that are there and of a path. -/
def fillF (z : Int) (ls : List LV) (c d : Nat) : Nat → Nat → Nat → List (List UInt8) → List UInt8
  | 0, _, _, _ => []
  | f + 1, a, b, ds => if b ≤ c ∨ d ≤ a then ds.headD [] else if c ≤ a ∧ b ≤ d then rootD z (bytesL (partL ls (a - c) (b - c))) else nodeD z (fillF z ls c d f a (a + halfN (b - a)) ds) (fillF z ls c d f (a + halfN (b - a)) b (ds.drop (outL a (a + halfN (b - a)) c d).length))
theorem fillF_len (z : Int) (ls : List LV) (c d : Nat) : ∀ (k a b : Nat) (ds : List (List UInt8)), (∀ e ∈ ds, e.length = 32) → (outL a b c d).length ≤ ds.length → (fillF z ls c d (k + 1) a b ds).length = 32 := by
  intro k a b ds hds hl
  rw [fillF]
  split
  · rename_i h1
    rw [outL_apart h1] at hl
    cases ds with
    | nil => simp at hl
    | cons e t => exact hds e (by simp)
  · split
    · exact rootD_length _ _
    · exact nodeD_length _ _ _
theorem path_tail {w : World} {pb po pc : Nat} {e : List UInt8} {ds : List (List UInt8)} {nx : Option Addr} (h : PathV w (some ⟨pb, po, none⟩) (e :: ds)) (hc : (e :: ds).length ≤ pc) (hnx : (if pc = 1 then some (⟨pb, po, none⟩ : Addr) else some ⟨pb, po + 32, none⟩) = nx) : PathV w nx ds := by
  refine ⟨fun x hx => h.1 x (by simp [hx]), fun hp => ?_⟩
  obtain ⟨b, off, h1, h2⟩ := h.2 (by simp)
  cases h1
  rw [if_neg (by simp at hc; omega)] at hnx
  refine ⟨pb, po + 32, hnx.symm, fun k x hx => ?_⟩
  have := h2 (k + 1) x (by simpa using hx)
  rw [show po + (k + 1) * 32 = po + 32 + k * 32 by omega] at this
  exact this
theorem fill_base (z : Int) (c d : Nat) (hd : d ≤ 9223372036854775807) (ls : List LV) (qb qf qn qc f : Nat) (w0 : World) (hLs : LeavesV w0 (some ⟨qb, qf, none⟩) qn qc ls) (hqn : d - c ≤ qn) (hq1 : qn ≤ 1000) (hK : WW w0 0 ks) (hz0 : 0 < w0.heap.size) (hz : -9223372036854775808 ≤ z ∧ z ≤ 9223372036854775807)
    (k a b : Nat) (ds : List (List UInt8)) (po : Option Addr) (pc : Nat) (w : World) (hab : a < b) (hW : Below w0.heap.size w0 w) (hf : w.heap[f]? = some (.cells (fillC z c d (some ⟨qb, qf, none⟩) qn qc po ds.length pc) 99 (0, 0))) (hP : PathV w0 po ds) (hpc : ds.length ≤ pc) (hl : (outL a b c d).length ≤ ds.length) (h12 : (b ≤ c ∨ d ≤ a) ∨ (c ≤ a ∧ b ≤ d)) :
    Calls Tryd.prog 69 #[.pointer (some ⟨f, 0, none⟩), sv a b] w fun e w' => e = .returned (dv (fillF z ls c d (k + 1) a b ds)) ∧ (∃ po2 pn2 pc2, (pn2 = (ds.drop (outL a b c d).length).length ∧ pn2 ≤ pc2 ∧ PathV w0 po2 (ds.drop (outL a b c d).length)) ∧ w'.heap[f]? = some (.cells (fillC z c d (some ⟨qb, qf, none⟩) qn qc po2 pn2 pc2) 99 (0, 0))) ∧ Chg f w w' := by
  by_cases h1 : b ≤ c ∨ d ≤ a
  · rw [outL_apart h1] at hl ⊢
    cases ds with
    | nil => simp at hl
    | cons e t =>
      obtain ⟨pb, off, hpo, hr⟩ := hP.2 (by simp)
      subst hpo
      rw [fillF, if_pos h1]
      have hx := hr 0 e rfl
      rw [Nat.zero_mul, Nat.add_zero] at hx
      refine (fill_apart a b c d z _ qn qc f pb off _ pc e w h1 hf (by simp) hpc (range_bel hx hW (Nat.le_refl _)) (hP.1 e (by simp)) _ rfl).mono ?_
      rintro e' w' ⟨rfl, h2, h3⟩
      refine ⟨rfl, ⟨_, _, _, ⟨?_, ?_, ?_⟩, h2⟩, h3⟩
      · simp
      · omega
      · exact path_tail hP hpc rfl
  · have h2 : c ≤ a ∧ b ≤ d := h12.resolve_left h1
    rw [outL_within h1 h2] at hl ⊢
    rw [fillF, if_neg h1, if_pos h2]
    refine (fill_within a b c d z qb qf qn qc f po ds.length pc (rootD z (bytesL (partL ls (a - c) (b - c)))) w h1 h2 hab hd hqn hLs.2.1 hf (rootD_length _ _) ?_).mono ?_
    · intro W hWW
      have hWB : Below w0.heap.size w0 W := hW.trans (hWW.mono hW.size)
      exact root_any z hz (b - c - (a - c)) _ _ _ W ((hLs.below hWB (Nat.le_refl _)).part (a - c) (b - c) (by omega) (by omega)) (by omega) (hK.below hWB hz0) (Nat.lt_of_lt_of_le hz0 hWB.size)
    · rintro e w' ⟨rfl, h3, h4⟩
      exact ⟨rfl, ⟨po, _, pc, ⟨rfl, hpc, hP⟩, h3⟩, h4⟩
theorem fill_any (z : Int) (c d : Nat) (hcd : c < d) (hd : d ≤ 9223372036854775807) (ls : List LV) (qb qf qn qc f : Nat) (w0 : World) (hLs : LeavesV w0 (some ⟨qb, qf, none⟩) qn qc ls) (hqn : d - c ≤ qn) (hq1 : qn ≤ 1000) (hK : WW w0 0 ks) (hz0 : 0 < w0.heap.size) (hz : -9223372036854775808 ≤ z ∧ z ≤ 9223372036854775807) (hf0 : w0.heap.size ≤ f) (hf1 : f ≠ 0) :
    ∀ (k a b : Nat) (ds : List (List UInt8)) (po : Option Addr) (pc : Nat) (w : World), b - a ≤ 2 ^ k → a < b → b ≤ 9223372036854775807 → Below w0.heap.size w0 w → w.heap[f]? = some (.cells (fillC z c d (some ⟨qb, qf, none⟩) qn qc po ds.length pc) 99 (0, 0)) → PathV w0 po ds → ds.length ≤ pc → (outL a b c d).length ≤ ds.length →
      Calls Tryd.prog 69 #[.pointer (some ⟨f, 0, none⟩), sv a b] w fun e w' => e = .returned (dv (fillF z ls c d (k + 1) a b ds)) ∧ (∃ po2 pn2 pc2, (pn2 = (ds.drop (outL a b c d).length).length ∧ pn2 ≤ pc2 ∧ PathV w0 po2 (ds.drop (outL a b c d).length)) ∧ w'.heap[f]? = some (.cells (fillC z c d (some ⟨qb, qf, none⟩) qn qc po2 pn2 pc2) 99 (0, 0))) ∧ Chg f w w' := by
  intro k
  induction k with
  | zero =>
    intro a b ds po pc w hk hab hb hW hf hP hpc hl
    refine fill_base z c d hd ls qb qf qn qc f w0 hLs hqn hq1 hK hz0 hz 0 a b ds po pc w hab hW hf hP hpc hl ?_
    by_cases h1 : b ≤ c ∨ d ≤ a
    · exact .inl h1
    · exact .inr (out_one (by simpa using hk) hab hcd h1)
  | succ k ih =>
    intro a b ds po pc w hk hab hb hW hf hP hpc hl
    by_cases h12 : (b ≤ c ∨ d ≤ a) ∨ (c ≤ a ∧ b ≤ d)
    · exact fill_base z c d hd ls qb qf qn qc f w0 hLs hqn hq1 hK hz0 hz (k + 1) a b ds po pc w hab hW hf hP hpc hl h12
    · have h1 : ¬ (b ≤ c ∨ d ≤ a) := fun h => h12 (.inl h)
      have h2 : ¬ (c ≤ a ∧ b ≤ d) := fun h => h12 (.inr h)
      obtain ⟨h3, h4⟩ := outL_two hcd hab hb h1 h2
      obtain ⟨l1, l2⟩ := halfN_le (b - a) k h3 (by omega) hk
      obtain ⟨s1, s2, -, -, -⟩ := halfN_spec (b - a) h3 (by omega)
      rw [fillF, if_neg h1, if_neg h2]
      rw [h4, List.length_append] at hl ⊢
      obtain ⟨m, hm⟩ : ∃ m, a + halfN (b - a) = m := ⟨_, rfl⟩
      rw [hm] at hl ⊢
      have hds : ∀ e ∈ ds.drop (outL a m c d).length, e.length = 32 := fun e he => hP.1 e (List.mem_of_mem_drop he)
      have hl2 : (outL m b c d).length ≤ (ds.drop (outL a m c d).length).length := by rw [List.length_drop]; omega
      have hz1 : w0.heap.size ≤ w.heap.size := hW.size
      refine (fill_two a b c d m z (some ⟨qb, qf, none⟩) qn qc f po ds.length pc (fillF z ls c d (k + 1) a m ds) (fillF z ls c d (k + 1) m b (ds.drop (outL a m c d).length)) (fun po2 pn2 pc2 => pn2 = (ds.drop (outL a m c d).length).length ∧ pn2 ≤ pc2 ∧ PathV w0 po2 (ds.drop (outL a m c d).length)) (fun po2 pn2 pc2 => pn2 = (ds.drop ((outL a m c d).length + (outL m b c d).length)).length ∧ pn2 ≤ pc2 ∧ PathV w0 po2 (ds.drop ((outL a m c d).length + (outL m b c d).length))) w h1 h2 h3 hb hm hf (fillF_len z ls c d k a m ds hP.1 (by omega)) (fillF_len z ls c d k m b _ hds hl2) hf1 (hK.below hW hz0) hz ?_ ?_)
      · intro W hc hfW
        exact ih a m ds po pc W (by omega) (by omega) (by omega) (hW.trans (hc.below hf0 hz1)) hfW hP hpc (by omega)
      · rintro po2 pn2 pc2 W ⟨rfl, hp2, hp3⟩ hc hfW
        have := ih m b (ds.drop (outL a m c d).length) po2 pc2 W (by omega) (by omega) hb (hW.trans (hc.below hf0 hz1)) hfW hp3 hp2 hl2
        rw [List.drop_drop] at this
        exact this
end Go.Proofs.YtaebpnednhkfhaaDoor

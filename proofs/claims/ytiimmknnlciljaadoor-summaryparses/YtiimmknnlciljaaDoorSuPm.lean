/-
  A list is read as it was written, and what is read has just these bytes: plain mathematics.
-/
import Derived.Test.YtiimmknnlciljaaDoorSuTs
namespace Go.Proofs.YtiimmknnlciljaaDoor
open Go.RowKit Go.Sort Go.Shelf
set_option linter.unusedSectionVars false
variable [Inhabited E] [DecidableEq E]
theorem textOf_once (bs s : List UInt8) (n : Nat) (h : textOf bs = (s, n, true)) : n ≤ bs.length ∧ bs.take n = textB s := by
  unfold textOf at h
  split at h
  · cases h
  · rename_i hc
    obtain ⟨⟨v, k, ok⟩, hg⟩ : ∃ x, getB bs = x := ⟨_, rfl⟩
    rw [hg] at h hc
    simp only [Prod.mk.injEq, and_true] at h
    have hok : ok = true := by cases ok with | true => rfl | false => exact absurd (.inl rfl) hc
    subst hok
    obtain ⟨h1, h2, h3, h4, _⟩ := getB_once bs v k hg
    obtain ⟨hs, hn⟩ := h
    have hlen : v ≤ bs.length - k := by
      have : ¬ (bs.length - k < v) := fun h => hc (.inr h)
      omega
    have hsl : s.length = v := by rw [← hs, List.length_take, List.length_drop]; omega
    refine ⟨by omega, ?_⟩
    rw [← hn, List.take_add, h4, hs, textB, hsl]
/-! ### Forth -/
theorem rdN_put (v : Nat) (hv : v < 18446744073709551616) (more : List UInt8) (b : Bool) : rdN (putB v ++ more) b = (v, more, b) := by
  unfold rdN
  rw [getB_putB v hv, if_pos rfl]
  simp only [List.drop_left]
theorem rdX_text (s : List UInt8) (hs : s.length < 18446744073709551616) (more : List UInt8) (b : Bool) : rdX (textB s ++ more) b = (s, more, b) := by
  unfold rdX
  rw [textOf_textB s more hs, if_pos rfl]
  simp only [List.drop_left]
theorem rdD_dig (d : List UInt8) (hd : d.length = 32) (more : List UInt8) (b : Bool) : rdD (d ++ more) b = (d, more, b) := by
  unfold rdD
  rw [if_pos (by rw [List.length_append]; omega), ← hd, List.take_left, List.drop_left]
theorem rdTb_written (x : Tb) (hx : oneT x) (more : List UInt8) (b : Bool) : rdTb (writtenB x ++ more) b = (x, more, b) := by
  have h1 := hx.1; have h2 := hx.2.1; have h3 := hx.2.2.1; have h4 := hx.2.2.2.1
  have hf := key_small hx.2.2.2.2.1
  have hl := key_small hx.2.2.2.2.2.1
  have hfs := strB_length x.first
  have hls := strB_length x.last
  have e0 : writtenB x ++ more = putB x.lv.toNat ++ (putB x.ct.toNat ++ (x.root ++ (textB (strB x.first) ++ (textB (strB x.last) ++ more)))) := by simp [writtenB]
  have a1 := rdN_put x.lv.toNat (by omega) (putB x.ct.toNat ++ (x.root ++ (textB (strB x.first) ++ (textB (strB x.last) ++ more)))) b
  have a2 := rdN_put x.ct.toNat (by omega) (x.root ++ (textB (strB x.first) ++ (textB (strB x.last) ++ more))) b
  have a3 := rdD_dig x.root x.hr (textB (strB x.first) ++ (textB (strB x.last) ++ more)) b
  have a4 := rdX_text (strB x.first) (by omega) (textB (strB x.last) ++ more) b
  have a5 := rdX_text (strB x.last) (by omega) more b
  rw [e0]
  unfold rdTb
  refine Prod.ext (Tb.same ?_ ?_ ?_ ?_ ?_) ?_
  · show lvOf (rdN _ b).1 = _; rw [a1]; show wrap64 (x.lv.toNat : Int) = x.lv; unfold wrap64; omega
  · show lvOf (rdN (rdN _ b).2.1 (rdN _ b).2.2).1 = _; rw [a1, a2]; show wrap64 (x.ct.toNat : Int) = x.ct; unfold wrap64; omega
  · show (rdD (rdN (rdN _ b).2.1 (rdN _ b).2.2).2.1 (rdN (rdN _ b).2.1 (rdN _ b).2.2).2.2).1 = _; rw [a1, a2, a3]
  · dsimp only; rw [a1]; dsimp only; rw [a2]; dsimp only; rw [a3]; dsimp only; rw [a4]; exact (str_mk x.first).symm
  · dsimp only; rw [a1]; dsimp only; rw [a2]; dsimp only; rw [a3]; dsimp only; rw [a4]; dsimp only; rw [a5]; exact (str_mk x.last).symm
  · dsimp only; rw [a1]; dsimp only; rw [a2]; dsimp only; rw [a3]; dsimp only; rw [a4]; dsimp only; rw [a5]
theorem rdTbs_flat : ∀ (ts : List Tb), (∀ x ∈ ts, oneT x) → ∀ (more : List UInt8) (b : Bool), rdTbs ts.length (ts.flatMap writtenB ++ more) b = (ts, more, b)
  | [], _, more, b => rfl
  | x :: ts, h, more, b => by
    have ih := rdTbs_flat ts (fun y hy => h y (by simp [hy])) more b
    rw [List.length_cons, rdTbs, List.flatMap_cons, List.append_assoc, rdTb_written x (h x (by simp)), ih]
theorem rdL_sum {ts : List Tb} (h : rightT ts) : rdL (sumB ts) false = (ts, [], false) := by
  have h1 := h.1
  have a := rdN_put ts.length (by omega) (ts.flatMap writtenB) false
  unfold rdL sumB
  rw [a, if_neg (by show ¬ 512 < ts.length; omega)]
  have := rdTbs_flat ts (right_mem h) [] false
  rwa [List.append_nil] at this
theorem parse_yes {ts : List Tb} (h : rightT ts) : parseOk (sumB ts) = true ∧ (rdL (sumB ts) false).1 = ts := by
  have a := rdL_sum h
  unfold parseOk
  rw [a]
  exact ⟨by rw [rightTB_iff.2 h]; rfl, rfl⟩
/-! ### Back -/
theorem rdN_back {R R' : List UInt8} {b : Bool} {v : Nat} (h : rdN R b = (v, R', false)) : b = false ∧ R = putB v ++ R' ∧ v < 18446744073709551616 := by
  unfold rdN at h
  split at h
  · rename_i hok
    have hg : getB R = ((getB R).1, (getB R).2.1, true) := by rw [← hok]
    obtain ⟨h1, -, -, h4, -⟩ := getB_once _ _ _ hg
    simp only [Prod.mk.injEq] at h
    obtain ⟨e1, e2, e3⟩ := h
    refine ⟨e3, ?_, by omega⟩
    rw [← e1, ← e2, ← h4, List.take_append_drop]
  · simp only [Prod.mk.injEq] at h; exact absurd h.2.2 (by decide)
theorem rdX_back {R R' : List UInt8} {b : Bool} {s : List UInt8} (h : rdX R b = (s, R', false)) : b = false ∧ R = textB s ++ R' := by
  unfold rdX at h
  split at h
  · rename_i hok
    have hg : textOf R = ((textOf R).1, (textOf R).2.1, true) := by rw [← hok]
    obtain ⟨-, h4⟩ := textOf_once _ _ _ hg
    simp only [Prod.mk.injEq] at h
    obtain ⟨e1, e2, e3⟩ := h
    refine ⟨e3, ?_⟩
    rw [← e1, ← e2, ← h4, List.take_append_drop]
  · simp only [Prod.mk.injEq] at h; exact absurd h.2.2 (by decide)
theorem rdD_back {R R' : List UInt8} {b : Bool} {d : List UInt8} (h : rdD R b = (d, R', false)) : b = false ∧ R = d ++ R' := by
  unfold rdD at h
  split at h
  · simp only [Prod.mk.injEq] at h
    obtain ⟨e1, e2, e3⟩ := h
    exact ⟨e3, by rw [← e1, ← e2, List.take_append_drop]⟩
  · simp only [Prod.mk.injEq] at h; exact absurd h.2.2 (by decide)
theorem lvOf_nat {v : Nat} {x : Int} (hv : v < 18446744073709551616) (h : lvOf v = x) (h0 : 0 ≤ x) : v = x.toNat := by
  unfold lvOf wrap64 at h; omega
theorem rdTb_back {R R' : List UInt8} {b : Bool} {x : Tb} (h : rdTb R b = (x, R', false)) (hx : oneT x) : b = false ∧ R = writtenB x ++ R' := by
  obtain ⟨⟨v1, R1, b1⟩, h1⟩ : ∃ a, rdN R b = a := ⟨_, rfl⟩
  obtain ⟨⟨v2, R2, b2⟩, h2⟩ : ∃ a, rdN R1 b1 = a := ⟨_, rfl⟩
  obtain ⟨⟨d, R3, b3⟩, h3⟩ : ∃ a, rdD R2 b2 = a := ⟨_, rfl⟩
  obtain ⟨⟨f, R4, b4⟩, h4⟩ : ∃ a, rdX R3 b3 = a := ⟨_, rfl⟩
  obtain ⟨⟨l, R5, b5⟩, h5⟩ : ∃ a, rdX R4 b4 = a := ⟨_, rfl⟩
  have q : (rdTb R b).1.lv = lvOf v1 ∧ (rdTb R b).1.ct = lvOf v2 ∧ (rdTb R b).1.root = d ∧ (rdTb R b).1.first = ⟨f.toArray⟩ ∧ (rdTb R b).1.last = ⟨l.toArray⟩ ∧ (rdTb R b).2 = (R5, b5) := by
    refine ⟨?_, ?_, ?_, ?_, ?_, ?_⟩ <;> unfold rdTb <;> dsimp only
    · rw [h1]
    · rw [h1]; dsimp only; rw [h2]
    · rw [h1]; dsimp only; rw [h2]; dsimp only; rw [h3]
    · rw [h1]; dsimp only; rw [h2]; dsimp only; rw [h3]; dsimp only; rw [h4]
    · rw [h1]; dsimp only; rw [h2]; dsimp only; rw [h3]; dsimp only; rw [h4]; dsimp only; rw [h5]
    · rw [h1]; dsimp only; rw [h2]; dsimp only; rw [h3]; dsimp only; rw [h4]; dsimp only; rw [h5]
  rw [h] at q
  obtain ⟨q1, q2, q3, q4, q5, q6⟩ := q
  simp only [Prod.mk.injEq] at q1 q2 q3 q4 q5 q6
  obtain ⟨rfl, rfl⟩ := q6
  obtain ⟨rfl, e5⟩ := rdX_back h5
  obtain ⟨rfl, e4⟩ := rdX_back h4
  obtain ⟨rfl, e3⟩ := rdD_back h3
  obtain ⟨rfl, e2, w2⟩ := rdN_back h2
  obtain ⟨rfl, e1, w1⟩ := rdN_back h1
  have n1 := lvOf_nat w1 q1.symm hx.1
  have n2 := lvOf_nat w2 q2.symm (by have := hx.2.2.1; omega)
  refine ⟨rfl, ?_⟩
  rw [e1, e2, e3, e4, e5, writtenB, ← n1, ← n2, q3, q4, q5, strB_mk, strB_mk]
  simp
theorem rdTbs_back : ∀ (n : Nat) (R R' : List UInt8) (b : Bool) (L : List Tb), rdTbs n R b = (L, R', false) → (∀ x ∈ L, oneT x) → b = false ∧ R = L.flatMap writtenB ++ R'
  | 0, R, R', b, L, h, _ => by
    simp only [rdTbs, Prod.mk.injEq] at h
    obtain ⟨rfl, rfl, rfl⟩ := h
    exact ⟨rfl, rfl⟩
  | n + 1, R, R', b, L, h, hL => by
    rw [rdTbs] at h
    obtain ⟨⟨x, R1, b1⟩, h1⟩ : ∃ a, rdTb R b = a := ⟨_, rfl⟩
    obtain ⟨⟨M, R2, b2⟩, h2⟩ : ∃ a, rdTbs n R1 b1 = a := ⟨_, rfl⟩
    rw [h1] at h
    dsimp only at h
    rw [h2] at h
    simp only [Prod.mk.injEq] at h
    obtain ⟨rfl, rfl, rfl⟩ := h
    obtain ⟨rfl, e2⟩ := rdTbs_back n R1 R2 b1 M h2 (fun y hy => hL y (by simp [hy]))
    obtain ⟨rfl, e1⟩ := rdTb_back h1 (hL x (by simp))
    exact ⟨rfl, by rw [e1, e2, List.flatMap_cons, List.append_assoc]⟩
theorem parse_once {bs : List UInt8} (h : parseOk bs = true) : rightT (rdL bs false).1 ∧ sumB (rdL bs false).1 = bs := by
  obtain ⟨⟨L, R, b⟩, hl⟩ : ∃ a, rdL bs false = a := ⟨_, rfl⟩
  unfold parseOk at h
  rw [hl] at h ⊢
  simp only [Bool.and_eq_true, Bool.not_eq_true', List.isEmpty_iff] at h
  obtain ⟨⟨rfl, rfl⟩, hr⟩ := h
  have hr2 := rightTB_iff.1 hr
  refine ⟨hr2, ?_⟩
  unfold rdL at hl
  split at hl
  · simp only [Prod.mk.injEq] at hl; exact absurd hl.2.2 (by decide)
  · obtain ⟨⟨v, R1, b1⟩, h1⟩ : ∃ a, rdN bs false = a := ⟨_, rfl⟩
    rw [h1] at hl
    dsimp only at hl
    have hlen := rdTbs_len v R1 b1
    obtain ⟨rfl, e1⟩ := rdTbs_back v R1 [] b1 L hl (right_mem hr2)
    obtain ⟨-, e0, -⟩ := rdN_back h1
    rw [hl] at hlen
    dsimp only at hlen
    rw [sumB, hlen, e0, e1, List.append_nil]
end Go.Proofs.YtiimmknnlciljaaDoor

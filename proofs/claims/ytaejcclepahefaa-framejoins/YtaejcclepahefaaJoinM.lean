/-
  Frames one behind the other, cut and turned: plain mathematics.
-/
import Derived.Test.YtaejcclepahefaaRefN
namespace Go.Proofs.Ytaejcclepahefaa
open Go.RowKit
theorem frame_take (b more : List UInt8) : (frameB b ++ more).take (8 + b.length) = frameB b := by
  rw [List.take_append_of_le_length (by rw [frameB_length]; exact Nat.le_refl _), List.take_of_length_le (by rw [frameB_length]; exact Nat.le_refl _)]
theorem frame_body (b more : List UInt8) : ((frameB b ++ more).drop 8).take b.length = b := by
  rw [List.drop_append_of_le_length (by rw [frameB_length]; omega), frame_drop, List.take_append_of_le_length (Nat.le_refl _), List.take_length]
theorem frame_fix (b more : List UInt8) (hb : b.length ≤ 65536) : (fixOf (frameB b ++ more)).1 = b.length := by
  unfold frameB
  rw [List.append_assoc, fixOf_fixB _ (by omega)]
theorem next_frame (b more : List UInt8) (hb : b.length ≤ 65536) : nextF (frameB b ++ more) = (b, 8 + b.length, 0) := by
  have hl : (frameB b ++ more).length = 8 + b.length + more.length := by rw [List.length_append, frameB_length]
  have h := (frame_eq (frameB b ++ more) b.length (frame_fix b more hb) (by omega)).1 (by rw [frame_body, frame_take])
  unfold nextF
  rw [if_neg (by omega), frame_fix b more hb, if_neg (by omega), if_neg (by omega), if_pos h, frame_body]
theorem next_is {bs : List UInt8} (h : (nextF bs).2.2 = 0) : frameB (nextF bs).1 = bs.take (8 + (nextF bs).1.length) := by
  obtain ⟨z1, z2, z3⟩ := nextF_zero h
  have h2 := h
  unfold nextF at h2
  split at h2
  · simp at h2
  · split at h2
    · simp at h2
    · split at h2
      · simp at h2
      · split at h2
        · rename_i a1 a2 a3 a4
          have e : (nextF bs).1 = (bs.drop 8).take (fixOf bs).1 := by unfold nextF; rw [if_neg a1, if_neg a2, if_neg a3, if_pos a4]
          have hl : (nextF bs).1.length = (fixOf bs).1 := by rw [e]; simp; omega
          rw [hl, e]
          exact (frame_eq bs _ rfl (by omega)).2 a4
        · simp at h2
theorem frames_cons (b more : List UInt8) (hb : b.length ≤ 65536) : framesB (frameB b ++ more) = b :: framesB more ∧ endB (frameB b ++ more) = (frameB b).length + endB more := by
  have h := next_frame b more hb
  obtain ⟨h1, h2⟩ := frames_step (bs := frameB b ++ more) (by rw [h])
  have e : (frameB b ++ more).drop (8 + b.length) = more := by rw [← frameB_length, List.drop_left]
  rw [h] at h1 h2
  simp only at h1 h2
  rw [e] at h1 h2
  exact ⟨h1, by rw [h2, frameB_length]⟩
/-- Frames in a row. -/
def rowB (l : List (List UInt8)) : List UInt8 := (l.map frameB).flatten
theorem rowB_snoc (l : List (List UInt8)) (b : List UInt8) : rowB (l ++ [b]) = rowB l ++ frameB b := by simp [rowB]
theorem rowB_append (l m : List (List UInt8)) : rowB (l ++ m) = rowB l ++ rowB m := by simp [rowB]
theorem frames_row : ∀ (l : List (List UInt8)) (more : List UInt8), (∀ b ∈ l, b.length ≤ 65536) → framesB (rowB l ++ more) = l ++ framesB more ∧ endB (rowB l ++ more) = (rowB l).length + endB more
  | [], more, _ => by simp [rowB]
  | b :: t, more, h => by
    obtain ⟨h1, h2⟩ := frames_row t more (fun c hc => h c (by simp [hc]))
    have e : rowB (b :: t) ++ more = frameB b ++ (rowB t ++ more) := by simp [rowB]
    have e2 : (rowB (b :: t)).length = (frameB b).length + (rowB t).length := by simp [rowB]
    obtain ⟨h3, h4⟩ := frames_cons b (rowB t ++ more) (h b (by simp))
    rw [e, e2, h3, h4, h1, h2]
    exact ⟨rfl, by omega⟩
theorem frames_nil : framesB [] = [] ∧ endB [] = 0 := frames_stop (by rw [nextF_nil]; decide)
/-- A beginning of a frame is none. -/
theorem next_cut (b : List UInt8) (c : Nat) (hb : b.length ≤ 65536) (hc : c < 8 + b.length) : (nextF ((frameB b).take c)).2.2 = 5 := by
  have hl : ((frameB b).take c).length = c := by rw [List.length_take, frameB_length]; omega
  unfold nextF
  by_cases h4 : c < 4
  · rw [if_pos (by rw [hl]; exact h4)]
  · have hf : (fixOf ((frameB b).take c)).1 = b.length := by unfold frameB; exact fix_front _ (by omega) _ _ (by omega)
    rw [if_neg (by rw [hl]; exact h4), hf, if_neg (by omega), if_pos (by rw [hl]; exact hc)]
/-- What is told of frames and a beginning of one more. -/
theorem row_cut (l : List (List UInt8)) (b : List UInt8) (c : Nat) (hl : ∀ b ∈ l, b.length ≤ 65536) (hb : b.length ≤ 65536) (hc : c < 8 + b.length) :
    framesB (rowB l ++ (frameB b).take c) = l ∧ endB (rowB l ++ (frameB b).take c) = (rowB l).length ∧ restE (rowB l ++ (frameB b).take c) = if c = 0 then 0 else 5 := by
  have h5 := next_cut b c hb hc
  obtain ⟨h1, h2⟩ := frames_row l ((frameB b).take c) hl
  obtain ⟨h3, h4⟩ := frames_stop (bs := (frameB b).take c) (by rw [h5]; decide)
  rw [h3, List.append_nil] at h1
  rw [h4, Nat.add_zero] at h2
  have hlc : ((frameB b).take c).length = c := by rw [List.length_take, frameB_length]; omega
  refine ⟨h1, h2, ?_⟩
  unfold restE
  rw [h2, List.length_append, hlc, List.drop_left, h5]
  by_cases h0 : c = 0
  · rw [if_pos (by omega), if_pos h0]
  · rw [if_neg (by omega), if_neg h0]
/-- Frames alone. -/
theorem row_whole (l : List (List UInt8)) (hl : ∀ b ∈ l, b.length ≤ 65536) : framesB (rowB l) = l ∧ endB (rowB l) = (rowB l).length ∧ restE (rowB l) = 0 := by
  obtain ⟨h1, h2, h3⟩ := row_cut l [] 0 hl (by simp) (by omega)
  rw [List.take_zero, List.append_nil] at h1 h2 h3
  exact ⟨h1, h2, h3⟩
/-- A frame of which something is turned does not tell that body. -/
theorem turned (a b f : List UInt8) (ha : a.length ≤ 65536) (hf : f.length = (frameB b).length) (hne : f ≠ frameB b) :
    ∃ t, framesB (frameB a ++ f) = a :: t ∧ (frameB a).length ≤ endB (frameB a ++ f) ∧ (t = [] ∨ ∃ d r, t = d :: r ∧ d ≠ b) := by
  obtain ⟨h1, h2⟩ := frames_cons a f ha
  refine ⟨framesB f, h1, by omega, ?_⟩
  by_cases h : (nextF f).2.2 = 0
  · right
    obtain ⟨h3, -⟩ := frames_step h
    refine ⟨_, _, h3, fun e => hne ?_⟩
    have h4 := next_is h
    rw [e, List.take_of_length_le (by rw [hf, frameB_length]; exact Nat.le_refl _)] at h4
    exact h4.symm
  · left; exact (frames_stop h).1
end Go.Proofs.Ytaejcclepahefaa

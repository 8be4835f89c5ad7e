/-
  disk.Create, where no crash is armed.
-/
import Derived.Test.YtomeghngjiaofaaDskN
namespace Go.Proofs.Ytomeghngjiaofaa
open Go.RowKit
abbrev nameB (s : ByteArray) : Obj := .cells #[.string s] 9
abbrev fileB (s : ByteArray) : Obj := .cells #[.string s, .slice none 0 0] 77
set_option maxRecDepth 100000 in
theorem create_idle (g m n : Nat) (f : ByteArray → Option Nat) (down : Bool) (left : Int) (s : ByteArray) (w : World) (hf : w.cell? ⟨g, 2, none⟩ = some (.map (some m))) (hd : w.cell? ⟨g, 4, none⟩ = some (.bool down)) (hl : w.cell? ⟨g, 5, none⟩ = some (.int .i64 left)) (hi : ¬ 0 < left) (hg : g < w.heap.size) (hF : FilesAt w m n f) (hn : n < maxLen) (hs : s.size ≤ maxLen) :
    Calls Try.prog 23 #[.pointer (some ⟨g, 0, none⟩), .string s] w fun e w' =>
      (chk down [s] ≠ 0 ∧ e = .returned (.int .i64 (chk down [s])) ∧ w' = w.alloc (nameB s)) ∨
      (chk down [s] = 0 ∧ (∃ h, f s = some h) ∧ e = .returned (.int .i64 7) ∧ w' = w.alloc (nameB s)) ∨
      (chk down [s] = 0 ∧ f s = none ∧ e = .returned (.int .i64 0) ∧ FilesAt w' m (n + 1) (fun t => if t = s then some (w.heap.size + 1) else f t) ∧ ((w.alloc (nameB s)).alloc (fileB s)).mapTurned w' m) := by
  have b0 := bel_alloc w (nameB s)
  have hf1 : (w.alloc (nameB s)).cell? ⟨g, 2, none⟩ = some (.map (some m)) := (b0.cell hg).trans hf
  have hd1 : (w.alloc (nameB s)).cell? ⟨g, 4, none⟩ = some (.bool down) := (b0.cell hg).trans hd
  have hl1 : (w.alloc (nameB s)).cell? ⟨g, 5, none⟩ = some (.int .i64 left) := (b0.cell hg).trans hl
  have hF1 : FilesAt (w.alloc (nameB s)) m n f := hF.kept (World.grownBy_alloc _ _ none) (by simp)
  have hF2 : FilesAt ((w.alloc (nameB s)).alloc (fileB s)) m n f := hF1.kept (World.grownBy_alloc _ _ none) (by simp)
  have HW : Hid _ := write_idle g down left (some ⟨w.heap.size, 0, none⟩) 1 1 w.heap.size 0 [s] (w.alloc (nameB s)) hd1 hl1 hi (fun j t ht => by cases j with | zero => (cases ht; exact cell_one_new w _ 9 0 _ rfl) | succ j => (simp at ht)) rfl (fun _ => rfl) (by decide)
  have hlk := hF1.look hs
  obtain ⟨w9, hup, hF9, ht9⟩ := hF2.put hn hs (some (w.heap.size + 1))
  have HF9 : Hid _ := hF9
  have HT9 : Hid _ := ht9
  simp only [ptrV] at hup
  obtain ⟨z, hz⟩ : ∃ z, chk down [s] = z := ⟨_, rfl⟩
  rw [hz] at HW ⊢
  clear hg hf hd hl hd1 hl1 hF hF1 hF2 hF9 ht9 b0 hz hn
  go_enter Try.func23, Try.ntmps23
  go_wp2_with fail
  refine Calls.mono HW.out ?_
  rintro e w2 ⟨rfl, rfl⟩
  by_cases h0 : z = 0
  · subst h0
    cases hfs : f s with
    | some h =>
      rw [hfs] at hlk
      simp only [ptrV] at hlk
      go_wp2_with fail
      go_ret
      exact ⟨rfl, rfl⟩
    | none =>
      rw [hfs] at hlk
      simp only [ptrV] at hlk
      go_wp2_with fail
      go_ret
      exact ⟨rfl, HF9.out, HT9.out⟩
  · clear hup hlk HF9 HT9 hf1 hi HW
    have H0 : Hid (¬ z = 0) := h0
    go_wp2_with fail
    go_ret
    first | exact ⟨rfl, rfl⟩ | exact .inl ⟨h0, rfl, rfl⟩
end Go.Proofs.Ytomeghngjiaofaa

/-
  open, where no crash is armed.
-/
import Derived.Test.YtomeghngjiaofaaDskK
namespace Go.Proofs.Ytomeghngjiaofaa
open Go.RowKit
theorem FilesAt.drewN {w : World} {m n : Nat} {f : ByteArray → Option Nat} (h : FilesAt w m n f) : ∀ k, FilesAt (w.drewN k) m n f := by
  intro k
  obtain ⟨D, ⟨es, cl, h1, h2, h3, h4⟩, h5⟩ := h
  exact ⟨D, ⟨es, cl, by simpa using h1, h2, h3, h4⟩, h5⟩
set_option maxRecDepth 100000 in
theorem open_idle (g m n0 : Nat) (f : ByteArray → Option Nat) (down : Bool) (left : Int) (n c b off : Nat) (s : ByteArray) (ts : List ByteArray) (w : World) (hf : w.cell? ⟨g, 2, none⟩ = some (.map (some m))) (hd : w.cell? ⟨g, 4, none⟩ = some (.bool down)) (hl : w.cell? ⟨g, 5, none⟩ = some (.int .i64 left)) (hi : ¬ 0 < left) (hF : FilesAt w m n0 f) (hs : s.size ≤ maxLen) (ht : ∀ j t, (s :: ts)[j]? = some t → w.cell? ⟨b, off + j, none⟩ = some (.string t)) (hn : (s :: ts).length = n) (hsm : n ≤ 1000) :
    Calls Try.prog 48 #[.pointer (some ⟨g, 0, none⟩), .slice (some ⟨b, off, none⟩) n c] w fun e w' => ∃ k, w' = w.drewN k ∧
      e = .returned (.tuple (if chk down (s :: ts) = 0 then (match f s with | some h => #[.pointer (some ⟨h, 0, none⟩), .int .i64 0] | none => #[.pointer none, .int .i64 5]) else #[.pointer none, .int .i64 (chk down (s :: ts))])) := by
  have HW : Hid _ := write_idle g down left (some ⟨b, off, none⟩) n c b off (s :: ts) w hd hl hi ht hn (fun _ => rfl) hsm
  have hc : w.cell? ⟨b, off, none⟩ = some (.string s) := ht 0 s rfl
  have hlk := fun kk => (hF.drewN kk).look hs
  have h0n : (0 : Int) < (n : Int) := by rw [← hn, List.length_cons]; omega
  obtain ⟨z, hz⟩ : ∃ z, chk down (s :: ts) = z := ⟨_, rfl⟩
  rw [hz] at HW ⊢
  clear hd hl hi ht hn hsm hF hz hs
  go_enter Try.func48, Try.ntmps48
  go_wp2_with fail
  refine Calls.mono HW.out ?_
  rintro e w2 ⟨rfl, rfl⟩
  by_cases h0 : z = 0
  · subst h0
    cases hfs : f s with
    | some h =>
      rw [hfs] at hlk
      simp only [ptrV] at hlk
      go_wp2_with fail
      go_quiet (fail)
      clear hlk hc hf h0n
      go_wp2_with fail
      go_ret2
      exact ⟨⟨nq, rfl⟩, rfl⟩
    | none =>
      rw [hfs] at hlk
      simp only [ptrV] at hlk
      go_wp2_with fail
      go_quiet (fail)
      clear hlk hc hf h0n
      go_wp2_with fail
      go_ret2
      exact ⟨⟨nq, rfl⟩, rfl⟩
  · clear hlk hc hf h0n HW
    go_wp2_with fail
    go_ret2
    exact ⟨⟨0, rfl⟩, by first | rfl | simp [h0]⟩
end Go.Proofs.Ytomeghngjiaofaa

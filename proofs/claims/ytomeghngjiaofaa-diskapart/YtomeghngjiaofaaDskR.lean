/-
  disk.Read.
-/
import Derived.Test.YtomeghngjiaofaaDskO
namespace Go.Proofs.Ytomeghngjiaofaa
open Go.RowKit
set_option maxRecDepth 100000 in
theorem read_no (g m n : Nat) (f : ByteArray → Option Nat) (down : Bool) (s : ByteArray) (w : World) (hf : w.cell? ⟨g, 2, none⟩ = some (.map (some m))) (hd : w.cell? ⟨g, 4, none⟩ = some (.bool down)) (hg : g < w.heap.size) (hF : FilesAt w m n f) (hs : s.size ≤ maxLen) (hno : chk down [s] ≠ 0 ∨ f s = none) :
    Calls Try.prog 28 #[.pointer (some ⟨g, 0, none⟩), .string s] w fun e w' => w' = w.alloc (nameB s) ∧ e = .returned (.tuple #[.slice none 0 0, .int .i64 (if chk down [s] = 0 then 5 else chk down [s])]) := by
  have b0 := bel_alloc w (nameB s)
  have hf1 : (w.alloc (nameB s)).cell? ⟨g, 2, none⟩ = some (.map (some m)) := (b0.cell hg).trans hf
  have hd1 : (w.alloc (nameB s)).cell? ⟨g, 4, none⟩ = some (.bool down) := (b0.cell hg).trans hd
  have hF1 : FilesAt (w.alloc (nameB s)) m n f := hF.kept (World.grownBy_alloc _ _ none) (by simp)
  have HW : Hid _ := dcheck_any g down (some ⟨w.heap.size, 0, none⟩) 1 1 w.heap.size 0 [s] (w.alloc (nameB s)) hd1 (fun j t ht => by cases j with | zero => (cases ht; exact cell_one_new w _ 9 0 _ rfl) | succ j => (simp at ht)) rfl (fun _ => rfl) (by decide)
  have hlk := hF1.look hs
  obtain ⟨z, hz⟩ : ∃ z, chk down [s] = z := ⟨_, rfl⟩
  rw [hz] at HW hno ⊢
  clear hf hd hd1 hF hF1 b0 hz hg
  go_enter Try.func28, Try.ntmps28
  go_wp2_with fail
  refine Calls.mono HW.out ?_
  rintro e w2 ⟨rfl, rfl⟩
  by_cases h0 : z = 0
  · subst h0
    have hfs : f s = none := hno.resolve_left (fun h => h rfl)
    rw [hfs] at hlk
    simp only [ptrV] at hlk
    clear hno hfs
    go_wp2_with fail
    go_ret2
    exact ⟨rfl, rfl⟩
  · clear hlk hf1 HW hno
    go_wp2_with fail
    go_ret2
    exact ⟨rfl, by first | rfl | simp [h0]⟩
set_option maxRecDepth 100000 in
theorem read_ok (g m n h : Nat) (f : ByteArray → Option Nat) (down : Bool) (s : ByteArray) (bo : Option Addr) (bn bc : Nat) (bs : List UInt8) (w : World) (hf : w.cell? ⟨g, 2, none⟩ = some (.map (some m))) (hd : w.cell? ⟨g, 4, none⟩ = some (.bool down)) (hg : g < w.heap.size) (hF : FilesAt w m n f) (hs : s.size ≤ maxLen) (hz : chk down [s] = 0) (hfs : f s = some h) (hh : h < w.heap.size) (hbd : w.cell? ⟨h, 1, none⟩ = some (.slice bo bn bc)) (hby : Bytes w bo bn bs) (hn0 : bo = none → bc = 0) (hbn : bn ≤ 140737488355328) :
    Calls Try.prog 28 #[.pointer (some ⟨g, 0, none⟩), .string s] w fun e w' => ∃ v, e = .returned (.tuple #[v, .int .i64 0]) ∧ w'.ownsRow w.heap.size 5 1 v bn (cellsOf bs) ∧ Below w.heap.size w w' := by
  have b0 := bel_alloc w (nameB s)
  have hf1 : (w.alloc (nameB s)).cell? ⟨g, 2, none⟩ = some (.map (some m)) := (b0.cell hg).trans hf
  have hd1 : (w.alloc (nameB s)).cell? ⟨g, 4, none⟩ = some (.bool down) := (b0.cell hg).trans hd
  have hb1 : (w.alloc (nameB s)).cell? ⟨h, 1, none⟩ = some (.slice bo bn bc) := (b0.cell hh).trans hbd
  have hF1 : FilesAt (w.alloc (nameB s)) m n f := hF.kept (World.grownBy_alloc _ _ none) (by simp)
  have HW : Hid _ := dcheck_any g down (some ⟨w.heap.size, 0, none⟩) 1 1 w.heap.size 0 [s] (w.alloc (nameB s)) hd1 (fun j t ht => by cases j with | zero => (cases ht; exact cell_one_new w _ 9 0 _ rfl) | succ j => (simp at ht)) rfl (fun _ => rfl) (by decide)
  have HC : Hid _ := clone_any bo bn bc bs (w.alloc (nameB s)) (bytes_kept hby b0 (Nat.le_refl _)) hn0 hbn
  have hlk := hF1.look hs
  rw [hfs] at hlk
  simp only [ptrV] at hlk
  rw [hz] at HW
  have HB0 : Hid (Below w.heap.size w (w.alloc (nameB s))) := b0
  clear hf hd hd1 hF hF1 b0 hz hg hfs hh hbd hby hn0 hbn
  go_enter Try.func28, Try.ntmps28
  go_wp2_with fail
  refine Calls.mono HW.out ?_
  rintro e w2 ⟨rfl, rfl⟩
  go_wp2_with fail
  refine Calls.mono HC.out ?_
  rintro e w3 ⟨v, rfl, hown, hb3⟩
  have hsz : w.heap.size ≤ (w.alloc (nameB s)).heap.size := by simp
  have HO : Hid (w3.ownsRow w.heap.size 5 1 v bn (cellsOf bs)) := ownsRow_mono hown hsz
  have HB : Hid (Below w.heap.size w w3) := HB0.out.trans (hb3.mono hsz)
  clear hown hb3 hsz HB0 HC HW hlk hb1 hf1 hs
  go_wp2_with fail
  go_ret2
  exact ⟨v, rfl, HO.out, HB.out⟩
end Go.Proofs.Ytomeghngjiaofaa

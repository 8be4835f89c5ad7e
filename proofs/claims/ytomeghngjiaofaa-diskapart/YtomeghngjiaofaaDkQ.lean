/-
  disk's New, Start, Arm, Used, Up, Read.
-/
import Derived.Test.YtomeghngjiaofaaDkP
namespace Go.Proofs.Ytomeghngjiaofaa
open Go.RowKit
section
variable {own : Nat → Prop} {w : World} {g : Nat} {A : Dk} {m n : Nat} {uo : Option Addr} {uc : Nat} {blk : Nat → Nat} {bv : Nat → Value}
theorem new_at (k : Int) (c : Nat) (w : World) (hm : max k 0 = (c : Int)) (hc : c ≤ 9223372036854775807) : Calls Try.prog 12 #[.int .i64 k] w fun e w' => ∃ g, e = .returned (.pointer (some ⟨g, 0, none⟩)) ∧ w.heap.size ≤ g ∧ DiskAt (fun k => w.heap.size ≤ k) w' g (Dk.new c) 0 ∧ Below w.heap.size w w' := by
  refine (new_any k c w hm).mono ?_
  rintro e w' ⟨rfl, rfl⟩
  have h1 : ((w.alloc (.map #[] 0)).alloc (.cells (dskC c 0 w.heap.size none 0 0 false 0 0) 69)).heap[w.heap.size + 1]? = some (.cells (dskC c 0 w.heap.size none 0 0 false 0 0) 69 (0, 0)) := by
    have := heap_alloc_new (w.alloc (.map #[] 0)) (.cells (dskC c 0 w.heap.size none 0 0 false 0 0) 69)
    simpa using this
  refine ⟨_, rfl, by omega, ⟨Dk.wf.new c hc, Nat.le_refl _, w.heap.size, 0, none, 0, (fun _ => 0), (fun _ => .slice none 0 0), Nat.le_refl _, ?_⟩, ?_⟩
  · refine ⟨by show _ ≤ _; omega, Nat.le_refl _, h1, ?_, ⟨rfl, .inl ⟨rfl, rfl⟩⟩, (fun k hk => by cases hk), (fun x hx => by cases hx), (fun x hx => by cases hx)⟩
    exact new_files w _
  · exact ((Below.refl _ w).alloc (Nat.le_refl _) _).alloc (by simp) _
theorem start_at {N : Nat} (h : DiskAt own w g A N) : Calls Try.prog 20 #[.pointer (some ⟨g, 0, none⟩)] w fun e w' => e = .returned (.tuple #[]) ∧ DiskAt own w' g A.start N ∧ Only own w w' := by
  obtain ⟨hwf, hpl, m, n, uo, uc, blk, bv, hnN, h⟩ := h
  have c4 := h.c4
  have f4 := fz_of h.cells 4
  have HD : Hid (DiskIn own w g A m n uo uc blk bv) := h
  have HR : Hid (A.wf ∧ A.pcs.length ≤ N ∧ n ≤ N) := ⟨hwf, hpl, hnN⟩
  clear h hwf hpl hnN
  go_enter Try.func20, Try.ntmps20
  go_wp2_with fail
  go_end0
  refine ⟨rfl, ⟨HR.out.1.start, HR.out.2.1, m, n, uo, uc, blk, bv, HR.out.2.2, HD.out.turn rfl rfl (fun k _ hk => heap_set_ne _ _ _ hk) (by rw [heap_set HD.out.cells]; rfl)⟩, (Only.refl own w).setCell (.inl HD.out.og) _⟩
theorem arm_at {N : Nat} (h : DiskAt own w g A N) (a k : Int) (ha : -9223372036854775808 ≤ a ∧ a ≤ 9223372036854775807) (hk : -9223372036854775808 ≤ k ∧ k ≤ 9223372036854775807) : Calls Try.prog 32 #[.pointer (some ⟨g, 0, none⟩), .int .i64 a, .int .i64 k] w fun e w' => e = .returned (.tuple #[]) ∧ DiskAt own w' g (A.arm a k) N ∧ Only own w w' := by
  obtain ⟨hwf, hpl, m, n, uo, uc, blk, bv, hnN, h⟩ := h
  have c5 := h.c5
  have f5 := fz_of h.cells 5
  have c6 := h.c6
  have f6 := fz_of h.cells 6
  have HD : Hid (DiskIn own w g A m n uo uc blk bv) := h
  have HR : Hid (A.wf ∧ A.pcs.length ≤ N ∧ n ≤ N) := ⟨hwf, hpl, hnN⟩
  have HA : Hid (A.arm a k).wf := hwf.arm a k ha hk
  clear h hwf hpl hnN ha hk
  go_enter Try.func32, Try.ntmps32
  go_wp2_with fail
  go_end0
  refine ⟨rfl, ⟨HA.out, HR.out.2.1, m, n, uo, uc, blk, bv, HR.out.2.2, HD.out.turn rfl rfl (fun k _ hk => by rw [heap_set_ne _ _ _ hk, heap_set_ne _ _ _ hk]) (by rw [heap_set (heap_set HD.out.cells _ _)]; rfl)⟩, ((Only.refl own w).setCell (.inl HD.out.og) _).setCell (.inl HD.out.og) _⟩
theorem used_at {N : Nat} (h : DiskAt own w g A N) : Calls Try.prog 33 #[.pointer (some ⟨g, 0, none⟩)] w fun e w' => e = .returned (.int .i64 (usedL A.L)) ∧ w' = w := by
  obtain ⟨hwf, hpl, m, n, uo, uc, blk, bv, hnN, h⟩ := h
  exact used_any g _ w h.c1
theorem up_at {N : Nat} (h : DiskAt own w g A N) : Calls Try.prog 29 #[.pointer (some ⟨g, 0, none⟩)] w fun e w' => e = .returned (.bool (!A.down)) ∧ w' = w := by
  obtain ⟨hwf, hpl, m, n, uo, uc, blk, bv, hnN, h⟩ := h
  exact up_any g _ w h.c4
theorem crash_dk {N : Nat} (h : DiskAt own w g A N) (hN : N ≤ 1000000) (k : Int) (hk : -9223372036854775808 ≤ k ∧ k ≤ 9223372036854775807) : Calls Try.prog 18 #[.pointer (some ⟨g, 0, none⟩), .int .i64 k] w fun e w' => e = .returned (.tuple #[]) ∧ DiskAt (grow own w) w' g (A.crash k) N ∧ Only own w w' := by
  obtain ⟨hwf, hpl, m, n, uo, uc, blk, bv, hnN, h⟩ := h
  refine (crash_at h hwf k hk (Nat.le_trans hpl hN)).mono ?_
  rintro e w' ⟨rfl, ⟨uo2, uc2, bv2, hd⟩, ho⟩
  refine ⟨rfl, ⟨hwf.crash k, ?_, m, n, uo2, uc2, blk, bv2, hnN, hd⟩, ho⟩
  unfold Dk.crash
  split
  · exact hpl
  · exact Nat.zero_le _
theorem read_at {N : Nat} (h : DiskAt own w g A N) (s : ByteArray) (hs : s.size ≤ maxLen) (hbig : usedL A.L ≤ 140737488355328) :
    Calls Try.prog 28 #[.pointer (some ⟨g, 0, none⟩), .string s] w fun e w' => ∃ v, e = .returned (.tuple #[v, .int .i64 (A.read s).2]) ∧ w'.ownsRow w.heap.size 5 1 v (A.read s).1.length (cellsOf (A.read s).1) ∧ Below w.heap.size w w' := by
  obtain ⟨hwf, hpl, m, n, uo, uc, blk, bv, hnN, h⟩ := h
  by_cases hz : chk A.down [s] = 0
  · cases hf : findL A.L s with
    | none =>
      have hr : A.read s = ([], 5) := by unfold Dk.read; rw [if_neg (fun e => e hz), hf]
      refine (read_no g m n _ A.down s w h.c2 h.c4 h.lt h.files hs (.inr (by rw [hf]; rfl))).mono ?_
      rintro e w' ⟨rfl, rfl⟩
      rw [hr, if_pos hz]
      exact ⟨_, rfl, ⟨rfl, .inl ⟨rfl, rfl⟩⟩, bel_alloc _ _⟩
    | some x =>
      have hr : A.read s = (x.body, 0) := by unfold Dk.read; rw [if_neg (fun e => e hz), hf]
      have hx := (findL_some hf).1
      obtain ⟨a, b, c, d⟩ := h.file x hx
      obtain ⟨bo, bc, hev, hbc, hm, h0⟩ := row_facts c
      rw [hev] at c
      have hby : Bytes w bo x.body.length x.body := by
        obtain ⟨ao3, c3, e3, hb3, _⟩ := own_bytes c
        cases e3
        exact hb3
      refine (read_ok g m n (blk x.id) _ A.down s bo x.body.length bc x.body w h.c2 h.c4 h.lt h.files hs hz (by rw [hf]; rfl) (heap_lt b) (by rw [cell_of_row _ _ _ _ _ _ b, hev]; rfl) hby h0 (Nat.le_trans (usedL_ge hx) hbig)).mono ?_
      rintro e w' ⟨v, rfl, ho, hb⟩
      rw [hr]
      exact ⟨v, rfl, ho, hb⟩
  · have hr : A.read s = ([], chk A.down [s]) := by unfold Dk.read; rw [if_pos hz]
    refine (read_no g m n _ A.down s w h.c2 h.c4 h.lt h.files hs (.inl hz)).mono ?_
    rintro e w' ⟨rfl, rfl⟩
    rw [hr, if_neg hz]
    exact ⟨_, rfl, ⟨rfl, .inl ⟨rfl, rfl⟩⟩, bel_alloc _ _⟩
end
end Go.Proofs.Ytomeghngjiaofaa

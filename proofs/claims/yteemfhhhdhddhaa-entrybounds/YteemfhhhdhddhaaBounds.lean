/-
  The bounds of an entry: what the law EntryBounds answers, for any arguments.
-/
import Derived.Test.YteemfhhhdhddhaaShown
import Derived.Laws.MakeOwn
import Derived.Deep.DeepCutAuto
namespace Go.Proofs.Yteemfhhhdhddhaa
open Go.RowKit Go.Sort Go.Shelf
set_option linter.unusedSectionVars false
variable [Inhabited E]
theorem i64_and255 (n : Int) : bits .and .i64 n 255 = n % 256 := by
  have hm : (BitVec.ofInt 64 255).toNat = 2 ^ 8 - 1 := by decide
  have key : (BitVec.ofInt 64 n &&& BitVec.ofInt 64 255).toNat = (n % ((2 ^ 64 : Nat) : Int)).toNat % 2 ^ 8 := by
    rw [BitVec.toNat_and, BitVec.toNat_ofInt, hm, Nat.and_two_pow_sub_one_eq_mod]
  show IntKind.i64.wrap ((BitVec.ofInt 64 n &&& BitVec.ofInt 64 255).toNat : Nat) = n % 256
  rw [key, IntKind.wrap_i64]
  omega
theorem i64_and2047 (n : Int) : bits .and .i64 n 2047 = n % 2048 := by
  have hm : (BitVec.ofInt 64 2047).toNat = 2 ^ 11 - 1 := by decide
  have key : (BitVec.ofInt 64 n &&& BitVec.ofInt 64 2047).toNat = (n % ((2 ^ 64 : Nat) : Int)).toNat % 2 ^ 11 := by
    rw [BitVec.toNat_and, BitVec.toNat_ofInt, hm, Nat.and_two_pow_sub_one_eq_mod]
  show IntKind.i64.wrap ((BitVec.ofInt 64 n &&& BitVec.ofInt 64 2047).toNat : Nat) = n % 2048
  rw [key, IntKind.wrap_i64]
  omega
/-- A row of n zeros. -/
def zrow (n : Nat) : Array Value := madeCells #[.int .u8 0] (n * 1)
def zstr (n : Nat) : ByteArray := ⟨(List.replicate n (0 : UInt8)).toArray⟩
theorem zstr_size (n : Nat) : (zstr n).size = n := by simp [zstr, ByteArray.size]
theorem make_zeros (n : Nat) (hn : n ≤ 100000) (W : World) : (Instr.makeSlice 24 (.int .i64 (n : Int)) (.int .i64 (n : Int))).run Try.prog W = .ok (.slice (some ⟨W.heap.size, 0, none⟩) n n) (W.alloc (.cells (zrow n) 5)) := by
  obtain ⟨i0, hi, hz0, hz1, hz2⟩ := info_parts info5
  have h := run_make (P := Try.prog) W 24 5 i0 (.int .u8 0) Try.underlying24 hi hz0 .i64 .i64 n n (by omega) (Int.le_refl _) (by rw [hz2]; omega) (by omega)
  rw [hz1] at h
  exact h
theorem zrow_bytes {W : World} {g n : Nat} (h : W.heap[g]? = some (.cells (zrow n) 5)) : Bytes W (some ⟨g, 0, none⟩) n (List.replicate n 0) := by
  refine ⟨by simp, fun i c hi => ⟨_, rfl, ?_⟩⟩
  have hi' : i < n ∧ c = 0 := by
    have := List.getElem?_eq_some_iff.1 hi
    obtain ⟨h1, h2⟩ := this
    simp at h1 h2
    exact ⟨h1, h2.symm⟩
  obtain ⟨h1, rfl⟩ := hi'
  show W.cell? _ = _
  rw [Addr.add_lit, Nat.zero_add, cell_of_row _ _ _ _ _ _ h]
  simp [zrow, madeCells, h1, Nat.mod_one]
theorem conv_zeros {W : World} {g n : Nat} (h : W.heap[g]? = some (.cells (zrow n) 5)) : (convert 24 9 (.slice (some ⟨g, 0, none⟩) n n)).run Try.prog W = .ok (.string (zstr n)) W := str_bytes n (zrow_bytes h)
theorem conv1 (n : Nat) (W : World) (g : Nat) (hg : g = W.heap.size) : (convert 24 9 (.slice (some ⟨g, 0, none⟩) n n)).run Try.prog (W.alloc (.cells (zrow n) 5)).drew = .ok (.string (zstr n)) (W.alloc (.cells (zrow n) 5)).drew :=
  conv_zeros (by show (W.alloc _).heap[g]? = _; rw [heap_alloc_get, if_pos hg])
theorem conv2 (n : Nat) (W : World) (o : Obj) (g : Nat) (hg : g = W.heap.size) : (convert 24 9 (.slice (some ⟨g, 0, none⟩) n n)).run Try.prog ((W.alloc (.cells (zrow n) 5)).alloc o).drew = .ok (.string (zstr n)) ((W.alloc (.cells (zrow n) 5)).alloc o).drew :=
  conv_zeros (by show ((W.alloc _).alloc _).heap[g]? = _; rw [heap_alloc_get, if_neg (by simp; omega), heap_alloc_get, if_pos hg])
theorem conv3 (n : Nat) (W : World) (o o' : Obj) (g : Nat) (hg : g = W.heap.size) : (convert 24 9 (.slice (some ⟨g, 0, none⟩) n n)).run Try.prog (((W.alloc (.cells (zrow n) 5)).alloc o).alloc o').drew = .ok (.string (zstr n)) (((W.alloc (.cells (zrow n) 5)).alloc o).alloc o').drew :=
  conv_zeros (by show (((W.alloc _).alloc _).alloc _).heap[g]? = _; rw [heap_alloc_get, if_neg (by simp; omega), heap_alloc_get, if_neg (by simp; omega), heap_alloc_get, if_pos hg])
theorem at3 (W : World) (a b X : Obj) : (((W.alloc a).alloc b).alloc X).drew.heap[W.heap.size + 1 + 1]? = some X := by
  show (((W.alloc a).alloc b).alloc X).heap[_]? = _
  rw [heap_alloc_get, if_pos (by simp)]
theorem at2 (W : World) (a b X : Obj) : (((W.alloc a).alloc X).alloc b).drew.heap[W.heap.size + 1]? = some X := by
  show (((W.alloc a).alloc X).alloc b).heap[_]? = _
  rw [heap_alloc_get, if_neg (by simp), heap_alloc_get, if_pos (by simp)]
theorem at1 (W : World) (a b X : Obj) : (((W.alloc X).alloc a).alloc b).drew.heap[W.heap.size]? = some X := by
  show (((W.alloc X).alloc a).alloc b).heap[_]? = _
  rw [heap_alloc_get, if_neg (by simp; omega), heap_alloc_get, if_neg (by simp), heap_alloc_get, if_pos rfl]
theorem bel3 (W : World) (a b c : Obj) : Below W.heap.size W (((W.alloc a).alloc b).alloc c).drew :=
  Below.drew ((((bel_alloc W a).trans ((bel_alloc _ b).mono (by simp))).trans ((bel_alloc _ c).mono (by simp; omega))))
set_option maxRecDepth 100000 in
set_option maxHeartbeats 4000000 in
theorem bounds_walk (a0 a1 : Int) (d : Bool) (q : Int) (w : World) : Calls Try.prog 8 #[.int .i64 a0, .int .i64 a1, .bool d, .int .i64 q] w fun e w' => e = .returned (.bool true) ∧ Below w.heap.size w w' := by
  obtain ⟨n0, h0, hn0⟩ : ∃ n : Nat, bits .and .i64 a0 255 = n ∧ n ≤ 255 := ⟨(a0 % 256).toNat, by rw [i64_and255]; omega, by omega⟩
  obtain ⟨n1, h1, hn1⟩ : ∃ n : Nat, bits .and .i64 a1 2047 = n ∧ n ≤ 2047 := ⟨(a1 % 2048).toNat, by rw [i64_and2047]; omega, by omega⟩
  go_enter Try.func8, Try.ntmps8
  go_wp2_with fail
  refine (shown_any w).mono ?_
  rintro e w1 ⟨rfl, hbel⟩
  go_wp2_with fail
  obtain ⟨s0, HS0⟩ : ∃ s, Hid (zstr n0 = s) := ⟨_, rfl⟩
  obtain ⟨s1, HS1⟩ : ∃ s, Hid (zstr n1 = s) := ⟨_, rfl⟩
  obtain ⟨z0, HZ0⟩ : ∃ s, Hid (zrow n0 = s) := ⟨_, rfl⟩
  obtain ⟨z1, HZ1⟩ : ∃ s, Hid (zrow n1 = s) := ⟨_, rfl⟩
  have k0 := make_zeros n0 (by omega)
  have k1 := make_zeros n1 (by omega)
  have c1 := conv1 n0
  have c2 := conv2 n0
  have c3 := conv3 n0
  have e1 := conv1 n1
  have e2 := conv2 n1
  have e3 := conv3 n1
  rw [HZ0.out] at k0
  rw [HZ1.out] at k1
  rw [HZ0.out, HS0.out] at c1 c2 c3
  rw [HZ1.out, HS1.out] at e1 e2 e3
  clear HZ0 HZ1
  go_cut [10] (fun p wx => ∃ g, p = .pointer (some ⟨g, 0, none⟩) ∧ wx.heap[g]? = some (.cells #[.string s0, .string s1, .bool d, .int .i64 q] 23) ∧ Below w1.heap.size w1 wx)
  case first =>
    go_region
    all_goals (go_wp2_with fail; go_meet; exact ⟨_, rfl, by first | exact at3 _ _ _ _ | exact at2 _ _ _ _ | exact at1 _ _ _ _, bel3 _ _ _ _⟩)
  case rest =>
    clear k0 k1 c1 c2 c3 e1 e2 e3
    obtain rfl := HS0.out
    obtain rfl := HS1.out
    clear HS0 HS1
    obtain ⟨g, rfl, hblk, hbelc⟩ := hcut
    obtain ⟨r, HR⟩ : ∃ r, Hid (rightB ⟨zstr n0, zstr n1, d, q⟩ = r) := ⟨_, rfl⟩
    go_upto_region 5 with fail
    go_cut [11] (fun b wy => b = .bool r ∧ wy = wc)
    case first =>
      clear hblk hbelc hbel
      by_cases p1 : 1 ≤ n0
      · have p1' : (1 : Int) ≤ (n0 : Int) := by omega
        by_cases p2 : n0 ≤ 128
        · have p2' : (n0 : Int) ≤ 128 := by omega
          by_cases p3 : n1 ≤ 1024
          · have p3' : (n1 : Int) ≤ 1024 := by omega
            cases d with
            | true =>
              by_cases p4 : n1 = 0
              · subst p4
                by_cases p5 : 1 ≤ q
                · by_cases p6 : q ≤ 1099511627776
                  · have hr : r = true := by rw [← HR.out]; simp only [rightB, decide_eq_true_eq, zstr_size]; exact ⟨p1, p2, p3, by simp, p5, p6⟩
                    subst hr
                    clear HR
                    go_wp2_with fail
                    go_meet
                    exact ⟨rfl, rfl⟩
                  · have hr : r = false := by rw [← HR.out]; simp only [rightB, decide_eq_false_iff_not, zstr_size]; exact fun h => p6 h.2.2.2.2.2
                    subst hr
                    clear HR
                    go_wp2_with fail
                    go_meet
                    exact ⟨rfl, rfl⟩
                · have hr : r = false := by rw [← HR.out]; simp only [rightB, decide_eq_false_iff_not, zstr_size]; exact fun h => p5 h.2.2.2.2.1
                  subst hr
                  clear HR
                  go_wp2_with fail
                  go_meet
                  exact ⟨rfl, rfl⟩
              · have p4' : (0 : Int) < (n1 : Int) := by omega
                have hr : r = false := by rw [← HR.out]; simp only [rightB, decide_eq_false_iff_not, zstr_size]; exact fun h => p4 (by simpa using h.2.2.2.1)
                subst hr
                clear HR
                go_wp2_with fail
                go_meet
                exact ⟨rfl, rfl⟩
            | false =>
              by_cases p5 : 1 ≤ q
              · by_cases p6 : q ≤ 1099511627776
                · have hr : r = true := by rw [← HR.out]; simp only [rightB, decide_eq_true_eq, zstr_size]; exact ⟨p1, p2, p3, (by simp), p5, p6⟩
                  subst hr
                  clear HR
                  go_wp2_with fail
                  go_meet
                  exact ⟨rfl, rfl⟩
                · have hr : r = false := by rw [← HR.out]; simp only [rightB, decide_eq_false_iff_not, zstr_size]; exact fun h => p6 h.2.2.2.2.2
                  subst hr
                  clear HR
                  go_wp2_with fail
                  go_meet
                  exact ⟨rfl, rfl⟩
              · have hr : r = false := by rw [← HR.out]; simp only [rightB, decide_eq_false_iff_not, zstr_size]; exact fun h => p5 h.2.2.2.2.1
                subst hr
                clear HR
                go_wp2_with fail
                go_meet
                exact ⟨rfl, rfl⟩
          · have p3' : ¬ (n1 : Int) ≤ 1024 := by omega
            have hr : r = false := by rw [← HR.out]; simp only [rightB, decide_eq_false_iff_not, zstr_size]; exact fun h => p3 h.2.2.1
            subst hr
            clear HR
            go_wp2_with fail
            go_meet
            exact ⟨rfl, rfl⟩
        · have p2' : ¬ (n0 : Int) ≤ 128 := by omega
          have hr : r = false := by rw [← HR.out]; simp only [rightB, decide_eq_false_iff_not, zstr_size]; exact fun h => p2 h.2.1
          subst hr
          clear HR
          go_wp2_with fail
          go_meet
          exact ⟨rfl, rfl⟩
      · have p1' : ¬ (1 : Int) ≤ (n0 : Int) := by omega
        have hr : r = false := by rw [← HR.out]; simp only [rightB, decide_eq_false_iff_not, zstr_size]; exact fun h => p1 h.1
        subst hr
        clear HR
        go_wp2_with fail
        go_meet
        exact ⟨rfl, rfl⟩
    case rest =>
      obtain ⟨rfl, rfl⟩ := hcut
      have hs0 : (zstr n0).size ≤ 9223372036854775807 := by rw [zstr_size]; omega
      have hs1 : (zstr n1).size ≤ 9223372036854775807 := by rw [zstr_size]; omega
      have CR := fun w => right_any (zstr n0) (zstr n1) d q w hs0 hs1
      have CB := fun w => bytes_any (zstr n0) (zstr n1) d q w hs0 hs1
      rw [HR.out] at CR
      have hlen : (0 < (bytesB ⟨zstr n0, zstr n1, d, q⟩).length) ↔ r = true := by
        rw [bytesB, HR.out]
        cases r with
        | true =>
          simp only [if_true]
          split <;> simp [headB]
        | false => simp
      obtain ⟨L, HL⟩ : ∃ L, Hid ((bytesB ⟨zstr n0, zstr n1, d, q⟩).length = L) := ⟨_, rfl⟩
      rw [HL.out] at hlen
      have b0 : wc.cell? ⟨g, 0, none⟩ = some (.string (zstr n0)) := by rw [cell_of_row _ _ _ _ _ _ hblk]; rfl
      have b1 : wc.cell? ⟨g, 1, none⟩ = some (.string (zstr n1)) := by rw [cell_of_row _ _ _ _ _ _ hblk]; rfl
      have b2 : wc.cell? ⟨g, 2, none⟩ = some (.bool d) := by rw [cell_of_row _ _ _ _ _ _ hblk]; rfl
      have b3 : wc.cell? ⟨g, 3, none⟩ = some (.int .i64 q) := by rw [cell_of_row _ _ _ _ _ _ hblk]; rfl
      have HCR : Hid _ := CR
      have HCB : Hid _ := CB
      have HB : Hid _ := hbel.trans (hbelc.mono hbel.size)
      clear hbel hbelc hblk CR CB HR
      generalize zstr n0 = s0 at *
      generalize zstr n1 = s1 at *
      go_wp2_with fail
      refine (HCR.out _).mono ?_
      rintro e w3 ⟨rfl, hbel3⟩
      have f0 := bel_cell hbel3 (Nat.le_refl _) b0
      have f1 := bel_cell hbel3 (Nat.le_refl _) b1
      have f2 := bel_cell hbel3 (Nat.le_refl _) b2
      have f3 := bel_cell hbel3 (Nat.le_refl _) b3
      have HB3 : Hid _ := HB.out.trans (hbel3.mono HB.out.size)
      clear hbel3 b0 b1 b2 b3
      go_wp2_with fail
      refine (HCB.out _).mono ?_
      rintro e w4 ⟨v4, rfl, hown4, hbel4⟩
      rw [HL.out] at hown4
      obtain ⟨ao, c4, hv4, -⟩ := own_bytes hown4
      subst hv4
      have HB4 : Hid _ := HB3.out.trans (hbel4.mono HB3.out.size)
      clear hown4 hbel4 f0 f1 f2 f3
      cases r with
      | true =>
        have hL : (0 : Int) < (L : Int) := by have := hlen.2 rfl; omega
        have HLn : Hid (0 < L) := hlen.2 rfl
        clear hlen
        go_wp2
        go_ret
        exact ⟨by show Ending.returned (.bool (decide (0 < L))) = _; rw [decide_eq_true HLn.out], HB4.out⟩
      | false =>
        have hL : ¬ (0 : Int) < (L : Int) := by intro h; have := hlen.1 (by omega); cases this
        have HLn : Hid (¬ 0 < L) := by show ¬ _; omega
        clear hlen
        go_wp2
        go_ret
        exact ⟨by show Ending.returned (.bool (!decide (0 < L))) = _; rw [decide_eq_false HLn.out]; rfl, HB4.out⟩
end Go.Proofs.Yteemfhhhdhddhaa

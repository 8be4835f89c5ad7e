/-
  What the document's Parse answers: a contract over this translation.
-/
import Derived.Test.YteemfhhhdhddhaaOnceM
import Derived.Test.YteemfhhhdhddhaaPress
namespace Go.Proofs.Yteemfhhhdhddhaa
open Go.RowKit Go.Sort Go.Shelf
set_option linter.unusedSectionVars false
variable [Inhabited E] [DecidableEq E]
theorem size_from (s : ByteArray) (c : Nat) : (s.extract c s.size).size ≤ s.size := by
  simp [ByteArray.size_extract]
theorem parseOf_cons (t : UInt8) (r : List UInt8) (ht : 1 < t.toNat) : parseOf (t :: r) = none := by
  simp [parseOf, readOf, ht]
theorem parseOf_get {t : UInt8} {r : List UInt8} {v n : Nat} (hg : getB r = (v, n, false)) : parseOf (t :: r) = none := by
  have : readOf (t :: r) = none := by simp [readOf, hg]
  simp [parseOf, this]
theorem wrap64_big {v : Nat} (h : v < 18446744073709551616) (h2 : 1099511627776 < v) : ¬ (1 ≤ wrap64 (v : Int) ∧ wrap64 (v : Int) ≤ 1099511627776) := by
  unfold wrap64; omega
theorem right_seq {e : E} (h : rightB e = true) : 1 ≤ e.seq ∧ e.seq ≤ 1099511627776 := by
  simp only [rightB, decide_eq_true_eq] at h
  exact ⟨h.2.2.2.2.1, h.2.2.2.2.2⟩
theorem parseOf_big {t : UInt8} {r : List UInt8} {v n : Nat} {ok : Bool} (hg : getB r = (v, n, ok)) (hv : v < 18446744073709551616) (h2 : 1099511627776 < v) : parseOf (t :: r) = none := by
  unfold parseOf
  cases h : readOf (t :: r) with
  | none => rfl
  | some xn =>
    obtain ⟨x, m⟩ := xn
    have hx : x.seq = wrap64 (v : Int) := by
      simp only [readOf, hg] at h
      split at h
      · cases h
      · split at h
        · cases h
        · split at h
          · cases h
          · split at h
            · cases h; rfl
            · split at h
              · cases h
              · cases h; rfl
    have : rightB x = false := by
      cases hr : rightB x with
      | false => rfl
      | true => exact absurd (hx ▸ right_seq hr) (wrap64_big hv h2)
    simp [this]
theorem parseOf_text {t : UInt8} {r : List UInt8} {v n : Nat} {ok : Bool} {k : List UInt8} {m : Nat} (hg : getB r = (v, n, ok)) (ht : textOf (r.drop n) = (k, m, false)) : parseOf (t :: r) = none := by
  have : readOf (t :: r) = none := by simp [readOf, hg, ht]
  simp [parseOf, this]
theorem textOf_short (l : List UInt8) : (textOf l).1.length ≤ l.length := by
  unfold textOf
  split
  · simp
  · simp only [List.length_take, List.length_drop]; omega
set_option maxRecDepth 100000 in
set_option maxHeartbeats 4000000 in
theorem refParse_any (s : ByteArray) (w : World) (hs : s.size ≤ 1000000) :
    Calls Try.prog 21 #[.string s] w fun e w' => e = .returned (parseV (parseOf (strB s))) ∧ Below w.heap.size w w' := by
  obtain ⟨p, HP⟩ : ∃ p, Hid (parseOf (strB s) = p) := ⟨_, rfl⟩
  rw [HP.out]
  by_cases h0 : 0 < s.size
  · have he : (s.toList == []) = false := by
      simp only [beq_eq_false_iff_ne, ne_eq]
      intro h
      have := congrArg List.length h
      cases s with
      | mk data => simp [ByteArray.toList_eq] at this; simp [ByteArray.size, this] at h0
    have hz : (0 : Int) < (s.size : Int) := by omega
    have hz1 : (1 : Int) ≤ (s.size : Int) := by omega
    have hd0 := str_drop s 0 h0
    rw [List.drop_zero] at hd0
    obtain ⟨r, HR⟩ : ∃ r, Hid ((strB s).drop (0 + 1) = r) := ⟨_, rfl⟩
    rw [HR.out] at hd0
    have HD0 : Hid (strB s = s[0] :: r) := hd0
    have HS1 : Hid (strB (s.extract 1 s.size) = r) := by show _ = _; rw [strB_from]; exact HR.out
    have hlr : r.length + 1 = s.size := by rw [← strB_length, hd0]; simp
    have HLR : Hid _ := hlr
    clear hd0 hlr
    by_cases h1 : 1 < s[0].toNat
    · have hp : p = none := by rw [← HP.out, HD0.out]; exact parseOf_cons _ _ h1
      subst hp
      have h1z : (1 : Int) < (s[0].toNat : Int) := by omega
      go_enter Try.func21, Try.ntmps21
      go_wp2
      (try simp only [Exit.inBlock, Exit.then])
      refine bodyPost_ret (results_entry3 rfl _ _ w.heap.size 23 _ _ rfl (heap_alloc_new w _) (by exact size23)) rfl ?_
      exact ⟨rfl, bel_alloc _ _⟩
    · obtain ⟨⟨v, n, ok⟩, HG⟩ : ∃ x, Hid (getB r = x) := ⟨_, rfl⟩
      have CG := fun w => refGet_any (s.extract 1 s.size) w (Nat.le_trans (size_from s 1) (by omega))
      rw [HS1.out, HG.out] at CG
      have HCG : Hid _ := CG
      have h1z : ¬ (1 : Int) < (s[0].toNat : Int) := by omega
      clear CG
      cases ok with
      | false =>
        have hp : p = none := by rw [← HP.out, HD0.out]; exact parseOf_get HG.out
        subst hp
        go_enter Try.func21, Try.ntmps21
        go_wp2_with fail
        refine (HCG.out _).mono ?_
        rintro e w2 ⟨rfl, rfl⟩
        go_wp2
        (try simp only [Exit.inBlock, Exit.then])
        refine bodyPost_ret (results_entry3 rfl _ _ w.heap.size 23 _ _ rfl (heap_alloc_new w _) (by exact size23)) rfl ?_
        exact ⟨rfl, bel_alloc _ _⟩
      | true =>
        obtain ⟨hv, hn1, hn2, -, -⟩ := getB_once r v n HG.out
        by_cases hbig : 1099511627776 < v
        · have hp : p = none := by rw [← HP.out, HD0.out]; exact parseOf_big HG.out hv hbig
          subst hp
          have hbz : (1099511627776 : Int) < (v : Int) := by omega
          go_enter Try.func21, Try.ntmps21
          go_wp2_with fail
          refine (HCG.out _).mono ?_
          rintro e w2 ⟨rfl, rfl⟩
          go_wp2
          (try simp only [Exit.inBlock, Exit.then])
          refine bodyPost_ret (results_entry3 rfl _ _ w.heap.size 23 _ _ rfl (heap_alloc_new w _) (by exact size23)) rfl ?_
          exact ⟨rfl, bel_alloc _ _⟩
        · have hbz : ¬ (1099511627776 : Int) < (v : Int) := by omega
          have hnl : 1 + n ≤ s.size := by have := HLR.out; omega
          have hnz : (1 : Int) + (n : Int) ≤ (s.size : Int) := by omega
          obtain ⟨⟨k, m, ok2⟩, HT⟩ : ∃ x, Hid (textOf (r.drop n) = x) := ⟨_, rfl⟩
          have HS2 : Hid (strB (s.extract (1 + n) s.size) = r.drop n) := by
            show _ = _; rw [strB_from, ← HR.out, List.drop_drop]
          have CT := fun w => refText_any (s.extract (1 + n) s.size) w (Nat.le_trans (size_from s _) (by omega))
          rw [HS2.out, HT.out] at CT
          have HCT : Hid _ := CT
          have hz2 : ((1 : Int) + (n : Int)).toNat = 1 + n := by omega
          clear CT hn1 hn2
          cases ok2 with
          | false =>
            have hp : p = none := by rw [← HP.out, HD0.out]; exact parseOf_text HG.out HT.out
            subst hp
            go_enter Try.func21, Try.ntmps21
            go_wp2_with fail
            refine (HCG.out _).mono ?_
            rintro e w2 ⟨rfl, rfl⟩
            go_wp2_with fail
            refine (HCT.out _).mono ?_
            rintro e w2 ⟨rfl, rfl⟩
            go_wp2
            (try simp only [Exit.inBlock, Exit.then])
            refine bodyPost_ret (results_entry3 rfl _ _ w.heap.size 23 _ _ rfl (heap_alloc_new w _) (by exact size23)) rfl ?_
            exact ⟨rfl, bel_alloc _ _⟩
          | true =>
            have hm : m ≤ (r.drop n).length := by have := textOf_len (r.drop n) (by rw [HT.out]); rwa [HT.out] at this
            have hml : 1 + n + m ≤ s.size := by have := HLR.out; rw [List.length_drop] at hm; omega
            have hmz : (1 : Int) + (n : Int) + (m : Int) ≤ (s.size : Int) := by omega
            have hks : (⟨k.toArray⟩ : ByteArray).size ≤ 9223372036854775807 := by
              have h := textOf_short (r.drop n)
              rw [HT.out, List.length_drop] at h
              simp only at h
              have := HLR.out
              simp only [ByteArray.size, List.size_toArray]; omega
            have hwv : IntKind.i64.wrap (v : Int) = v := by rw [IntKind.wrap_i64]; omega
            have hw64 := wrap64_small (v := v) (by omega)
            clear hm
            have ht : s[0].toNat = 0 ∨ s[0].toNat = 1 := by omega
            clear h1 h1z
            rcases ht with ht | ht
            · obtain ⟨⟨x, m3, ok3⟩, HU⟩ : ∃ y, Hid (textOf (r.drop (n + m)) = y) := ⟨_, rfl⟩
              have HS3 : Hid (strB (s.extract (1 + n + m) s.size) = r.drop (n + m)) := by
                show _ = _; rw [strB_from, ← HR.out, List.drop_drop, Nat.add_assoc]
              have CU := fun w => refText_any (s.extract (1 + n + m) s.size) w (Nat.le_trans (size_from s _) (by omega))
              rw [HS3.out, HU.out] at CU
              have HCU : Hid _ := CU
              have hz3 : ((1 : Int) + (n : Int) + (m : Int)).toNat = 1 + n + m := by omega
              clear CU
              cases ok3 with
              | false =>
                have hp : p = none := by
                  have : readOf (s[0] :: r) = none := by simp [readOf, HG.out, HT.out, HU.out, ht]
                  rw [← HP.out, HD0.out]; simp [parseOf, this]
                subst hp
                go_enter Try.func21, Try.ntmps21
                go_wp2_with fail
                refine (HCG.out _).mono ?_
                rintro e w2 ⟨rfl, rfl⟩
                go_wp2_with fail
                refine (HCT.out _).mono ?_
                rintro e w2 ⟨rfl, rfl⟩
                go_wp2_with fail
                refine (HCU.out _).mono ?_
                rintro e w2 ⟨rfl, rfl⟩
                go_wp2
                (try simp only [Exit.inBlock, Exit.then])
                refine bodyPost_ret (results_entry3 rfl _ _ w.heap.size 23 _ _ rfl (by rw [heap_alloc_get, if_neg (by simp), heap_alloc_get, if_pos rfl]) (by exact size23)) rfl ?_
                exact ⟨rfl, (bel_alloc w _).alloc (by simp) _⟩
              | true =>
                have hm3 : m3 ≤ (r.drop (n + m)).length := by have := textOf_len (r.drop (n + m)) (by rw [HU.out]); rwa [HU.out] at this
                have hml3 : (1 : Int) + (n : Int) + (m : Int) + (m3 : Int) ≤ (s.size : Int) := by have := HLR.out; rw [List.length_drop] at hm3; omega
                have hxs : (⟨x.toArray⟩ : ByteArray).size ≤ 9223372036854775807 := by
                  have h := textOf_short (r.drop (n + m))
                  rw [HU.out, List.length_drop] at h
                  simp only at h
                  have := HLR.out
                  simp only [ByteArray.size, List.size_toArray]; omega
                clear hm3
                obtain ⟨rr, HRR⟩ : ∃ r, Hid (rightB ⟨⟨k.toArray⟩, ⟨x.toArray⟩, false, (v : Int)⟩ = r) := ⟨_, rfl⟩
                have CR := fun w => refRight_any ⟨k.toArray⟩ ⟨x.toArray⟩ false (v : Int) w hks hxs
                rw [HRR.out] at CR
                have HCR : Hid _ := CR
                have HPR : Hid (p = if rr then some (⟨⟨k.toArray⟩, ⟨x.toArray⟩, false, (v : Int)⟩, 1 + n + m + m3) else none) := by
                  show _ = _
                  have : readOf (s[0] :: r) = some (⟨⟨k.toArray⟩, ⟨x.toArray⟩, false, (v : Int)⟩, 1 + n + m + m3) := by simp [readOf, HG.out, HT.out, HU.out, ht, hw64]
                  rw [← HP.out, HD0.out, parseOf, this, ← HRR.out]
                clear CR hw64
                go_enter Try.func21, Try.ntmps21
                go_wp2_with fail
                refine (HCG.out _).mono ?_
                rintro e w2 ⟨rfl, rfl⟩
                go_wp2_with fail
                refine (HCT.out _).mono ?_
                rintro e w2 ⟨rfl, rfl⟩
                go_wp2_with fail
                refine (HCU.out _).mono ?_
                rintro e w2 ⟨rfl, rfl⟩
                go_wp2_with fail
                refine (HCR.out _).mono ?_
                rintro e w3 ⟨rfl, hb3⟩
                have hblk2 : w3.heap[w.heap.size]? = some (Obj.cells #[.string ByteArray.empty, .string ByteArray.empty, .bool false, .int .i64 0] 23) := by
                  rw [hb3.block _ (by simp; omega), heap_alloc_get, if_neg (by simp), heap_alloc_get, if_pos rfl]; rfl
                have hblk3 : w3.heap[w.heap.size + 1]? = some (Obj.cells #[.string ⟨k.toArray⟩, .string ⟨x.toArray⟩, .bool false, .int .i64 (v : Int)] 23) := by rw [hb3.block _ (by simp), heap_alloc_get, if_pos (by simp)]; try rfl
                have HB2 : Hid _ := And.intro (show Below w.heap.size w w3 from ((bel_alloc w _).alloc (by simp) _).trans (hb3.mono (by simp; omega))) hblk2
                have b0 : w3.cell? ⟨w.heap.size, 0, none⟩ = some (.string ByteArray.empty) := by rw [cell_of_row _ _ _ _ _ _ hblk2]; rfl
                have b1 : w3.cell? ⟨w.heap.size, 1, none⟩ = some (.string ByteArray.empty) := by rw [cell_of_row _ _ _ _ _ _ hblk2]; rfl
                have b2 : w3.cell? ⟨w.heap.size, 2, none⟩ = some (.bool false) := by rw [cell_of_row _ _ _ _ _ _ hblk2]; rfl
                have b3 : w3.cell? ⟨w.heap.size, 3, none⟩ = some (.int .i64 0) := by rw [cell_of_row _ _ _ _ _ _ hblk2]; rfl
                have f0 : w3.frozen? ⟨w.heap.size, 0, none⟩ = false := frozen_of_row w3 _ 0 _ 23 hblk2
                have f1 : w3.frozen? ⟨w.heap.size, 1, none⟩ = false := frozen_of_row w3 _ 1 _ 23 hblk2
                have f2 : w3.frozen? ⟨w.heap.size, 2, none⟩ = false := frozen_of_row w3 _ 2 _ 23 hblk2
                have f3 : w3.frozen? ⟨w.heap.size, 3, none⟩ = false := frozen_of_row w3 _ 3 _ 23 hblk2
                have e0 : w3.cell? ⟨w.heap.size + 1, 0, none⟩ = some (.string ⟨k.toArray⟩) := by rw [cell_of_row _ _ _ _ _ _ hblk3]; rfl
                have e1 : w3.cell? ⟨w.heap.size + 1, 1, none⟩ = some (.string ⟨x.toArray⟩) := by rw [cell_of_row _ _ _ _ _ _ hblk3]; rfl
                have e2 : w3.cell? ⟨w.heap.size + 1, 2, none⟩ = some (.bool false) := by rw [cell_of_row _ _ _ _ _ _ hblk3]; rfl
                have e3 : w3.cell? ⟨w.heap.size + 1, 3, none⟩ = some (.int .i64 (v : Int)) := by rw [cell_of_row _ _ _ _ _ _ hblk3]; rfl
                clear hblk2 hblk3 hb3
                cases rr with
                | false =>
                  have hp : p = none := HPR.out
                  subst hp
                  go_wp2
                  (try simp only [Exit.inBlock, Exit.then])
                  refine bodyPost_ret (results_entry3 rfl _ _ w.heap.size 23 _ _ rfl (heap_four _ _ _ _ _ _ _ _ _ _ _ HB2.out.2) (by exact size23)) rfl ?_
                  exact ⟨rfl, bel_four HB2.out.1 (Nat.le_refl _) _ _ _ _⟩
                | true =>
                  have hp : p = some (⟨⟨k.toArray⟩, ⟨x.toArray⟩, false, (v : Int)⟩, 1 + n + m + m3) := HPR.out
                  subst hp
                  go_wp2
                  (try simp only [Exit.inBlock, Exit.then])
                  refine bodyPost_ret (results_entry3 rfl _ _ w.heap.size 23 _ _ rfl (heap_four _ _ _ _ _ _ _ _ _ _ _ HB2.out.2) (by exact size23)) rfl ?_
                  exact ⟨rfl, bel_four HB2.out.1 (Nat.le_refl _) _ _ _ _⟩
  
            · obtain ⟨rr, HRR⟩ : ∃ r, Hid (rightB ⟨⟨k.toArray⟩, ByteArray.empty, true, (v : Int)⟩ = r) := ⟨_, rfl⟩
              have CR := fun w => refRight_any ⟨k.toArray⟩ ByteArray.empty true (v : Int) w hks (by decide)
              rw [HRR.out] at CR
              have HCR : Hid _ := CR
              have HPR : Hid (p = if rr then some (⟨⟨k.toArray⟩, ByteArray.empty, true, (v : Int)⟩, 1 + n + m) else none) := by
                show _ = _
                have : readOf (s[0] :: r) = some (⟨⟨k.toArray⟩, ByteArray.empty, true, (v : Int)⟩, 1 + n + m) := by simp [readOf, HG.out, HT.out, ht, hw64]; rfl
                rw [← HP.out, HD0.out, parseOf, this, ← HRR.out]
              clear CR hw64
              go_enter Try.func21, Try.ntmps21
              go_wp2_with fail
              refine (HCG.out _).mono ?_
              rintro e w2 ⟨rfl, rfl⟩
              go_wp2_with fail
              refine (HCT.out _).mono ?_
              rintro e w2 ⟨rfl, rfl⟩
              go_wp2_with fail
              refine (HCR.out _).mono ?_
              rintro e w3 ⟨rfl, hb3⟩
              have hblk2 : w3.heap[w.heap.size]? = some (Obj.cells #[.string ByteArray.empty, .string ByteArray.empty, .bool false, .int .i64 0] 23) := by
                rw [hb3.block _ (by simp; omega), heap_alloc_get, if_neg (by simp), heap_alloc_get, if_pos rfl]; rfl
              have hblk3 : w3.heap[w.heap.size + 1]? = some (Obj.cells #[.string ⟨k.toArray⟩, .string ByteArray.empty, .bool true, .int .i64 (v : Int)] 23) := by rw [hb3.block _ (by simp), heap_alloc_get, if_pos (by simp)]; try rfl
              have HB2 : Hid _ := And.intro (show Below w.heap.size w w3 from ((bel_alloc w _).alloc (by simp) _).trans (hb3.mono (by simp; omega))) hblk2
              have b0 : w3.cell? ⟨w.heap.size, 0, none⟩ = some (.string ByteArray.empty) := by rw [cell_of_row _ _ _ _ _ _ hblk2]; rfl
              have b1 : w3.cell? ⟨w.heap.size, 1, none⟩ = some (.string ByteArray.empty) := by rw [cell_of_row _ _ _ _ _ _ hblk2]; rfl
              have b2 : w3.cell? ⟨w.heap.size, 2, none⟩ = some (.bool false) := by rw [cell_of_row _ _ _ _ _ _ hblk2]; rfl
              have b3 : w3.cell? ⟨w.heap.size, 3, none⟩ = some (.int .i64 0) := by rw [cell_of_row _ _ _ _ _ _ hblk2]; rfl
              have f0 : w3.frozen? ⟨w.heap.size, 0, none⟩ = false := frozen_of_row w3 _ 0 _ 23 hblk2
              have f1 : w3.frozen? ⟨w.heap.size, 1, none⟩ = false := frozen_of_row w3 _ 1 _ 23 hblk2
              have f2 : w3.frozen? ⟨w.heap.size, 2, none⟩ = false := frozen_of_row w3 _ 2 _ 23 hblk2
              have f3 : w3.frozen? ⟨w.heap.size, 3, none⟩ = false := frozen_of_row w3 _ 3 _ 23 hblk2
              have e0 : w3.cell? ⟨w.heap.size + 1, 0, none⟩ = some (.string ⟨k.toArray⟩) := by rw [cell_of_row _ _ _ _ _ _ hblk3]; rfl
              have e1 : w3.cell? ⟨w.heap.size + 1, 1, none⟩ = some (.string ByteArray.empty) := by rw [cell_of_row _ _ _ _ _ _ hblk3]; rfl
              have e2 : w3.cell? ⟨w.heap.size + 1, 2, none⟩ = some (.bool true) := by rw [cell_of_row _ _ _ _ _ _ hblk3]; rfl
              have e3 : w3.cell? ⟨w.heap.size + 1, 3, none⟩ = some (.int .i64 (v : Int)) := by rw [cell_of_row _ _ _ _ _ _ hblk3]; rfl
              clear hblk2 hblk3 hb3
              cases rr with
              | false =>
                have hp : p = none := HPR.out
                subst hp
                go_wp2
                (try simp only [Exit.inBlock, Exit.then])
                refine bodyPost_ret (results_entry3 rfl _ _ w.heap.size 23 _ _ rfl (heap_four _ _ _ _ _ _ _ _ _ _ _ HB2.out.2) (by exact size23)) rfl ?_
                exact ⟨rfl, bel_four HB2.out.1 (Nat.le_refl _) _ _ _ _⟩
              | true =>
                have hp : p = some (⟨⟨k.toArray⟩, ByteArray.empty, true, (v : Int)⟩, 1 + n + m) := HPR.out
                subst hp
                go_wp2
                (try simp only [Exit.inBlock, Exit.then])
                refine bodyPost_ret (results_entry3 rfl _ _ w.heap.size 23 _ _ rfl (heap_four _ _ _ _ _ _ _ _ _ _ _ HB2.out.2) (by exact size23)) rfl ?_
                exact ⟨rfl, bel_four HB2.out.1 (Nat.le_refl _) _ _ _ _⟩
  · have hse : s = ByteArray.empty := by
      cases s with
      | mk data => simp [ByteArray.size] at h0; simp [h0]; rfl
    subst hse
    have hp : p = none := by rw [← HP.out]; rfl
    subst hp
    clear HP
    go_enter Try.func21, Try.ntmps21
    go_wp2
    (try simp only [Exit.inBlock, Exit.then])
    refine bodyPost_ret (results_entry3 rfl _ _ w.heap.size 23 _ _ rfl (heap_alloc_new w _) (by exact size23)) rfl ?_
    exact ⟨rfl, bel_alloc _ _⟩
end Go.Proofs.Yteemfhhhdhddhaa

/-
  What entry.read answers: a contract over this translation. What cut, few, Find and Sorted answer: contracts over this translation. What seek.below, seek.Covers and seek.Overlaps answer: contracts over this translation.
-/
import Derived.Test.YtecacjddggljgaaDoorPartAF
import Derived.Lib.MinMax
namespace Go.Proofs.YtecacjddggljgaaDoor
open Go.RowKit Go.Sort Go.Shelf
set_option linter.unusedSectionVars false
variable [Inhabited E]
/-- An entry read off the front of bytes, and how many they are. -/
def readOf (bs : List UInt8) : Option (E × Nat) :=
  match bs with
  | [] => none
  | t :: r =>
    if 1 < t.toNat then none else
    if (getB r).2.2 = false then none else
    if (textOf (r.drop (getB r).2.1)).2.2 = false then none else
    if t.toNat = 1 then some (⟨⟨(textOf (r.drop (getB r).2.1)).1.toArray⟩, ⟨#[]⟩, true, wrap64 ((getB r).1 : Int)⟩, 1 + (getB r).2.1 + (textOf (r.drop (getB r).2.1)).2.1) else
    if (textOf (r.drop ((getB r).2.1 + (textOf (r.drop (getB r).2.1)).2.1))).2.2 = false then none else
    some (⟨⟨(textOf (r.drop (getB r).2.1)).1.toArray⟩, ⟨(textOf (r.drop ((getB r).2.1 + (textOf (r.drop (getB r).2.1)).2.1))).1.toArray⟩, false, wrap64 ((getB r).1 : Int)⟩, 1 + (getB r).2.1 + (textOf (r.drop (getB r).2.1)).2.1 + (textOf (r.drop ((getB r).2.1 + (textOf (r.drop (getB r).2.1)).2.1))).2.1)
def ReadSays (o : Option (E × Nat)) (e : Ending) : Prop :=
  match o with
  | some (x, n) => e = .returned (.tuple #[.agg (encE x).toArray, .int .i64 (n : Nat), .bool true])
  | none => ∃ (x : E) (n : Int), e = .returned (.tuple #[.agg (encE x).toArray, .int .i64 n, .bool false])
theorem textOf_nil : textOf [] = ([], 0, false) := rfl
theorem getB_nil : getB [] = (0, 0, false) := rfl
theorem textOf_len (bs : List UInt8) (h : (textOf bs).2.2 = true) : (textOf bs).2.1 ≤ bs.length := by
  unfold textOf at h ⊢
  split at h
  · cases h
  · rename_i hc
    rw [if_neg hc]
    have h1 : (getB bs).2.2 = true := by cases hh : (getB bs).2.2 with | true => rfl | false => exact absurd (.inl hh) hc
    have := getB_once bs (getB bs).1 (getB bs).2.1 (by rw [← h1])
    simp only
    omega
theorem results_entry3 {fn : Func} {p u v : Tmp} (h : fn.results = #[.cell p 54, .tmp u, .tmp v]) (tmps : Array Value) (w : World) (g : Nat) (t : TypeId) (cs : Array Value) (fr : Nat × Nat)
    (hp : tmps.getD p undef = .pointer (some ⟨g, 0, none⟩)) (hg : w.heap[g]? = some (.cells cs t fr)) (hi : (Tryd.prog.info? 54).map (·.size) = some cs.size) :
    (results fn tmps).run Tryd.prog w = .ok (.tuple #[.agg cs, tmps.getD u undef, tmps.getD v undef]) w := by
  have hp' : tmps[p]?.getD undef = .pointer (some ⟨g, 0, none⟩) := by simpa using hp
  simp [results, h, hp', asAddr, run_loadVar_row w g t 54 cs fr _ hg Tryd.underlying54 rfl hi]
theorem size23 : (Tryd.prog.info? 54).map (·.size) = some 4 := by kernel_rfl
set_option maxRecDepth 100000 in
set_option maxHeartbeats 4000000 in
theorem read_cells (b off len cap : Nat) (t : UInt8) (r : List UInt8) (w : World) (hb : Bytes w (some ⟨b, off, none⟩) len (t :: r)) (hlc : len ≤ cap) (hmax : cap ≤ 9223372036854775807) :
    Calls Tryd.prog 125 #[.slice (some ⟨b, off, none⟩) len cap] w fun e w' => ReadSays (readOf (t :: r)) e ∧ Below w.heap.size w w' := by
  have HLEN : Hid (len = r.length + 1) := by show _ = _; have := hb.1; simp at this; omega
  have hp : (0 : Int) < (len : Int) := by have := HLEN.out; omega
  have q4 : ((len : Int) == 0) = false := by simp; omega
  have hcp : (1 : Int) ≤ (cap : Int) := by omega
  have hlc' : (len : Int) ≤ (cap : Int) := by omega
  have c0 : w.cell? ⟨b, off, none⟩ = some (.int .u8 (t.toNat : Int)) := by
    obtain ⟨x, hx, hc⟩ := hb.2 0 t rfl
    cases hx
    exact hc
  have hbA : ∀ o, Bytes (w.alloc o) (some ⟨b, off, none⟩) len (t :: r) := fun o => bytes_kept hb (bel_alloc w o) (Nat.le_refl _)
  by_cases h2 : 1 < t.toNat
  · have HR : Hid (readOf (t :: r) = none) := by show _ = _; simp only [readOf]; rw [if_pos h2]
    rw [HR.out]
    have q0 : ((t.toNat : Int) == 0) = false := by simp; omega
    have q1 : ((t.toNat : Int) == 1) = false := by simp; omega
    have p0 : ((t.toNat : Int) != 0) = true := by simp; omega
    have p1 : ((t.toNat : Int) != 1) = true := by simp; omega
    have q2 : ¬ ((t.toNat : Int) = 0) := by omega
    have q3 : ¬ ((t.toNat : Int) = 1) := by omega
    have cA := fun o => bel_cell (bel_alloc w o) (Nat.le_refl _) c0
    clear hb hbA c0
    go_enter Tryd.func125, Tryd.ntmps125
    go_wp2
    (try simp only [Exit.inBlock, Exit.then])
    refine bodyPost_ret (results_entry3 rfl _ _ w.heap.size 54 _ _ rfl (heap_alloc_new w _) (by exact size23)) rfl ?_
    exact ⟨⟨⟨.empty, .empty, false, 0⟩, 0, rfl⟩, bel_alloc _ _⟩
  · have ht : t = 0 ∨ t = 1 := by
      have h3 : t.toNat = 0 ∨ t.toNat = 1 := by omega
      rcases h3 with h3 | h3
      · left; exact UInt8.toNat_inj.1 h3
      · right; exact UInt8.toNat_inj.1 h3
    clear h2
    rcases ht with rfl | rfl
    · have c0' : w.cell? ⟨b, off, none⟩ = some (.int .u8 0) := c0
      have cA := fun o => bel_cell (bel_alloc w o) (Nat.le_refl _) c0'
      clear c0 c0'
      obtain ⟨o, HO⟩ : ∃ o, Hid (readOf (0 :: r) = o) := ⟨_, rfl⟩
      rw [HO.out]
      obtain ⟨⟨v, n, ok⟩, HG⟩ : ∃ x, Hid (getB r = x) := ⟨_, rfl⟩
      by_cases hc1 : 1 < cap
      · have hc1' : (1 : Int) < (cap : Int) := by omega
        have CG := fun o => get_any (some ⟨b, off + 1, none⟩) (len - 1) (cap - 1) r (w.alloc o) (bytes_drop (hbA o) 1) (by omega)
        rw [HG.out] at CG
        have HCG : Hid _ := CG
        have HBA : Hid _ := hbA
        clear CG hb hbA
        cases ok with
        | false =>
          go_enter Tryd.func125, Tryd.ntmps125
          go_wp2_with fail
          refine (HCG.out _).mono ?_
          rintro e w2 ⟨rfl, rfl⟩
          go_wp2_with fail
          have ho : o = none := by rw [← HO.out]; simp [readOf, HG.out]
          subst ho
          (try simp only [Exit.inBlock, Exit.then])
          refine bodyPost_ret (results_entry3 rfl _ _ w.heap.size 54 _ _ rfl (heap_alloc_new w _) (by exact size23)) rfl ?_
          exact ⟨⟨⟨_, _, _, _⟩, _, rfl⟩, bel_alloc _ _⟩
        | true =>
          obtain ⟨hv, hn1, hn2, -, -⟩ := getB_once r v n HG.out
          have hnl : 1 + n ≤ len := by have := HLEN.out; omega
          have hnl' : (1 : Int) + (n : Int) ≤ (cap : Int) := by omega
          obtain ⟨⟨k, m, ok2⟩, HT⟩ : ∃ x, Hid (textOf (r.drop n) = x) := ⟨_, rfl⟩
          by_cases hc2 : 1 + n < cap
          · have hc2' : (1 : Int) + (n : Int) < (cap : Int) := by omega
            have CT := fun o => text_any (some ⟨b, off + (1 + n), none⟩) (len - (1 + n)) (cap - (1 + n)) (r.drop n) (w.alloc o) (by have := bytes_drop (HBA.out o) (1 + n); rwa [show (0 :: r).drop (1 + n) = r.drop n by rw [Nat.add_comm]; rfl] at this) (by omega) (by omega)
            rw [HT.out] at CT
            have HCT : Hid _ := CT
            clear CT
            go_enter Tryd.func125, Tryd.ntmps125
            go_wp2_with fail
            refine (HCG.out _).mono ?_
            rintro e w2 ⟨rfl, rfl⟩
            go_wp2_with fail
            refine (HCT.out _).mono ?_
            rintro e w3 ⟨rfl, rfl⟩
            cases ok2 with
            | false =>
              go_wp2_with fail
              have ho : o = none := by rw [← HO.out]; simp [readOf, HG.out, HT.out]
              subst ho
              (try simp only [Exit.inBlock, Exit.then])
              refine bodyPost_ret (results_entry3 rfl _ _ w.heap.size 54 _ _ rfl (heap_alloc_new w _) (by exact size23)) rfl ?_
              exact ⟨⟨⟨_, _, _, _⟩, _, rfl⟩, bel_alloc _ _⟩
            | true =>
              have hm : m ≤ (r.drop n).length := by have := textOf_len (r.drop n) (by rw [HT.out]); rwa [HT.out] at this
              have hml : 1 + n + m ≤ len := by have := HLEN.out; rw [List.length_drop] at hm; omega
              have hml' : (1 : Int) + (n : Int) + (m : Int) ≤ (cap : Int) := by omega
              clear hm
              obtain ⟨⟨x, m3, ok3⟩, HU⟩ : ∃ y, Hid (textOf (r.drop (n + m)) = y) := ⟨_, rfl⟩
              by_cases hc3 : 1 + n + m < cap
              · have hc3' : (1 : Int) + (n : Int) + (m : Int) < (cap : Int) := by omega
                have CU := fun o => text_any (some ⟨b, off + (1 + n + m), none⟩) (len - (1 + n + m)) (cap - (1 + n + m)) (r.drop (n + m)) (w.alloc o) (by have := bytes_drop (HBA.out o) (1 + n + m); rwa [show (0 :: r).drop (1 + n + m) = r.drop (n + m) by rw [Nat.add_assoc, Nat.add_comm]; rfl] at this) (by omega) (by omega)
                rw [HU.out] at CU
                have HCU : Hid _ := CU
                clear CU
                go_wp2_with fail
                refine (HCU.out _).mono ?_
                rintro e w4 ⟨rfl, rfl⟩
                cases ok3 with
                | false =>
                  go_wp2_with fail
                  have ho : o = none := by rw [← HO.out]; simp [readOf, HG.out, HT.out, HU.out]
                  subst ho
                  (try simp only [Exit.inBlock, Exit.then])
                  refine bodyPost_ret (results_entry3 rfl _ _ w.heap.size 54 _ _ rfl (heap_alloc_new w _) (by exact size23)) rfl ?_
                  exact ⟨⟨⟨_, _, _, _⟩, _, rfl⟩, bel_alloc _ _⟩
                | true =>
                  have hm3 : m3 ≤ (r.drop (n + m)).length := by have := textOf_len (r.drop (n + m)) (by rw [HU.out]); rwa [HU.out] at this
                  have hml3 : (1 : Int) + (n : Int) + (m : Int) + (m3 : Int) ≤ (cap : Int) := by have := HLEN.out; rw [List.length_drop] at hm3; omega
                  clear hm3
                  go_wp2_with fail
                  have ho : o = some (⟨⟨k.toArray⟩, ⟨x.toArray⟩, false, wrap64 (v : Int)⟩, 1 + n + m + m3) := by rw [← HO.out]; simp [readOf, HG.out, HT.out, HU.out]
                  subst ho
                  (try simp only [Exit.inBlock, Exit.then])
                  refine bodyPost_ret (results_entry3 rfl _ _ w.heap.size 54 _ _ rfl (heap_alloc_new w _) (by exact size23)) rfl ?_
                  exact ⟨rfl, bel_alloc _ _⟩
              · have hcap : cap = 1 + n + m := by omega
                have HD : Hid (r.drop (n + m) = []) := by show _ = _; exact List.drop_eq_nil_of_le (by have := HLEN.out; omega)
                have CU := fun o => text_any (some ⟨b, off, none⟩) 0 0 [] (w.alloc o) ⟨rfl, fun i c hi => by simp at hi⟩ (by omega) (by omega)
                rw [show textOf [] = ([], 0, false) from rfl] at CU
                have HCU : Hid _ := CU
                clear CU
                have hcap' : (cap : Int) = (1 : Int) + (n : Int) + (m : Int) := by omega
                subst hcap
                go_wp2_with fail
                refine (HCU.out _).mono ?_
                rintro e w4 ⟨rfl, rfl⟩
                go_wp2_with fail
                have ho : o = none := by rw [← HO.out]; simp [readOf, HG.out, HT.out, HD.out, textOf_nil]
                subst ho
                (try simp only [Exit.inBlock, Exit.then])
                refine bodyPost_ret (results_entry3 rfl _ _ w.heap.size 54 _ _ rfl (heap_alloc_new w _) (by exact size23)) rfl ?_
                exact ⟨⟨⟨_, _, _, _⟩, _, rfl⟩, bel_alloc _ _⟩
          · have hcap : cap = 1 + n := by omega
            have HD : Hid (r.drop n = []) := by show _ = _; exact List.drop_eq_nil_of_le (by have := HLEN.out; omega)
            have CU := fun o => text_any (some ⟨b, off, none⟩) 0 0 [] (w.alloc o) ⟨rfl, fun i c hi => by simp at hi⟩ (by omega) (by omega)
            rw [show textOf [] = ([], 0, false) from rfl] at CU
            have HCU : Hid _ := CU
            clear CU
            have HCP : Hid (cap = 1 + n) := hcap
            clear hcap
            go_enter Tryd.func125, Tryd.ntmps125
            go_wp2_with fail
            refine (HCG.out _).mono ?_
            rintro e w2 ⟨rfl, rfl⟩
            obtain rfl := HCP.out
            go_wp2_with fail
            refine (HCU.out _).mono ?_
            rintro e w4 ⟨rfl, rfl⟩
            go_wp2_with fail
            have ho : o = none := by rw [← HO.out]; simp [readOf, HG.out, HD.out, textOf_nil]
            subst ho
            (try simp only [Exit.inBlock, Exit.then])
            refine bodyPost_ret (results_entry3 rfl _ _ w.heap.size 54 _ _ rfl (heap_alloc_new w _) (by exact size23)) rfl ?_
            exact ⟨⟨⟨_, _, _, _⟩, _, rfl⟩, bel_alloc _ _⟩
      · have hcap : cap = 1 := by omega
        have hr : r = [] := List.eq_nil_of_length_eq_zero (by have := HLEN.out; omega)
        subst hr
        have CU := fun o => get_any (some ⟨b, off, none⟩) 0 0 [] (w.alloc o) ⟨rfl, fun i c hi => by simp at hi⟩ (by omega)
        rw [show getB [] = (0, 0, false) from rfl] at CU
        have HCU : Hid _ := CU
        clear CU hb hbA
        have hl1 : len = 1 := by have := HLEN.out; simp at this; omega
        clear HLEN
        subst hcap
        subst hl1
        go_enter Tryd.func125, Tryd.ntmps125
        go_wp2_with fail
        refine (HCU.out _).mono ?_
        rintro e w4 ⟨rfl, rfl⟩
        go_wp2_with fail
        have ho : o = none := by rw [← HO.out]; simp [readOf, getB_nil]
        subst ho
        (try simp only [Exit.inBlock, Exit.then])
        refine bodyPost_ret (results_entry3 rfl _ _ w.heap.size 54 _ _ rfl (heap_alloc_new w _) (by exact size23)) rfl ?_
        exact ⟨⟨⟨_, _, _, _⟩, _, rfl⟩, bel_alloc _ _⟩
    · have c0' : w.cell? ⟨b, off, none⟩ = some (.int .u8 1) := c0
      have cA := fun o => bel_cell (bel_alloc w o) (Nat.le_refl _) c0'
      clear c0 c0'
      obtain ⟨o, HO⟩ : ∃ o, Hid (readOf (1 :: r) = o) := ⟨_, rfl⟩
      rw [HO.out]
      obtain ⟨⟨v, n, ok⟩, HG⟩ : ∃ x, Hid (getB r = x) := ⟨_, rfl⟩
      by_cases hc1 : 1 < cap
      · have hc1' : (1 : Int) < (cap : Int) := by omega
        have CG := fun o => get_any (some ⟨b, off + 1, none⟩) (len - 1) (cap - 1) r (w.alloc o) (bytes_drop (hbA o) 1) (by omega)
        rw [HG.out] at CG
        have HCG : Hid _ := CG
        have HBA : Hid _ := hbA
        clear CG hb hbA
        cases ok with
        | false =>
          go_enter Tryd.func125, Tryd.ntmps125
          go_wp2_with fail
          refine (HCG.out _).mono ?_
          rintro e w2 ⟨rfl, rfl⟩
          go_wp2_with fail
          have ho : o = none := by rw [← HO.out]; simp [readOf, HG.out]
          subst ho
          (try simp only [Exit.inBlock, Exit.then])
          refine bodyPost_ret (results_entry3 rfl _ _ w.heap.size 54 _ _ rfl (heap_alloc_new w _) (by exact size23)) rfl ?_
          exact ⟨⟨⟨_, _, _, _⟩, _, rfl⟩, bel_alloc _ _⟩
        | true =>
          obtain ⟨hv, hn1, hn2, -, -⟩ := getB_once r v n HG.out
          have hnl : 1 + n ≤ len := by have := HLEN.out; omega
          have hnl' : (1 : Int) + (n : Int) ≤ (cap : Int) := by omega
          obtain ⟨⟨k, m, ok2⟩, HT⟩ : ∃ x, Hid (textOf (r.drop n) = x) := ⟨_, rfl⟩
          by_cases hc2 : 1 + n < cap
          · have hc2' : (1 : Int) + (n : Int) < (cap : Int) := by omega
            have CT := fun o => text_any (some ⟨b, off + (1 + n), none⟩) (len - (1 + n)) (cap - (1 + n)) (r.drop n) (w.alloc o) (by have := bytes_drop (HBA.out o) (1 + n); rwa [show (1 :: r).drop (1 + n) = r.drop n by rw [Nat.add_comm]; rfl] at this) (by omega) (by omega)
            rw [HT.out] at CT
            have HCT : Hid _ := CT
            clear CT
            go_enter Tryd.func125, Tryd.ntmps125
            go_wp2_with fail
            refine (HCG.out _).mono ?_
            rintro e w2 ⟨rfl, rfl⟩
            go_wp2_with fail
            refine (HCT.out _).mono ?_
            rintro e w3 ⟨rfl, rfl⟩
            cases ok2 with
            | false =>
              go_wp2_with fail
              have ho : o = none := by rw [← HO.out]; simp [readOf, HG.out, HT.out]
              subst ho
              (try simp only [Exit.inBlock, Exit.then])
              refine bodyPost_ret (results_entry3 rfl _ _ w.heap.size 54 _ _ rfl (heap_alloc_new w _) (by exact size23)) rfl ?_
              exact ⟨⟨⟨_, _, _, _⟩, _, rfl⟩, bel_alloc _ _⟩
            | true =>
              have hm : m ≤ (r.drop n).length := by have := textOf_len (r.drop n) (by rw [HT.out]); rwa [HT.out] at this
              have hml : 1 + n + m ≤ len := by have := HLEN.out; rw [List.length_drop] at hm; omega
              have hml' : (1 : Int) + (n : Int) + (m : Int) ≤ (cap : Int) := by omega
              clear hm
              go_wp2_with fail
              have ho : o = some (⟨⟨k.toArray⟩, ⟨#[]⟩, true, wrap64 (v : Int)⟩, 1 + n + m) := by rw [← HO.out]; simp [readOf, HG.out, HT.out]
              subst ho
              (try simp only [Exit.inBlock, Exit.then])
              refine bodyPost_ret (results_entry3 rfl _ _ w.heap.size 54 _ _ rfl (heap_alloc_new w _) (by exact size23)) rfl ?_
              exact ⟨rfl, bel_alloc _ _⟩
          · have hcap : cap = 1 + n := by omega
            have HD : Hid (r.drop n = []) := by show _ = _; exact List.drop_eq_nil_of_le (by have := HLEN.out; omega)
            have CU := fun o => text_any (some ⟨b, off, none⟩) 0 0 [] (w.alloc o) ⟨rfl, fun i c hi => by simp at hi⟩ (by omega) (by omega)
            rw [show textOf [] = ([], 0, false) from rfl] at CU
            have HCU : Hid _ := CU
            clear CU
            have HCP : Hid (cap = 1 + n) := hcap
            clear hcap
            go_enter Tryd.func125, Tryd.ntmps125
            go_wp2_with fail
            refine (HCG.out _).mono ?_
            rintro e w2 ⟨rfl, rfl⟩
            obtain rfl := HCP.out
            go_wp2_with fail
            refine (HCU.out _).mono ?_
            rintro e w4 ⟨rfl, rfl⟩
            go_wp2_with fail
            have ho : o = none := by rw [← HO.out]; simp [readOf, HG.out, HD.out, textOf_nil]
            subst ho
            (try simp only [Exit.inBlock, Exit.then])
            refine bodyPost_ret (results_entry3 rfl _ _ w.heap.size 54 _ _ rfl (heap_alloc_new w _) (by exact size23)) rfl ?_
            exact ⟨⟨⟨_, _, _, _⟩, _, rfl⟩, bel_alloc _ _⟩
      · have hcap : cap = 1 := by omega
        have hr : r = [] := List.eq_nil_of_length_eq_zero (by have := HLEN.out; omega)
        subst hr
        have CU := fun o => get_any (some ⟨b, off, none⟩) 0 0 [] (w.alloc o) ⟨rfl, fun i c hi => by simp at hi⟩ (by omega)
        rw [show getB [] = (0, 0, false) from rfl] at CU
        have HCU : Hid _ := CU
        clear CU hb hbA
        have hl1 : len = 1 := by have := HLEN.out; simp at this; omega
        clear HLEN
        subst hcap
        subst hl1
        go_enter Tryd.func125, Tryd.ntmps125
        go_wp2_with fail
        refine (HCU.out _).mono ?_
        rintro e w4 ⟨rfl, rfl⟩
        go_wp2_with fail
        have ho : o = none := by rw [← HO.out]; simp [readOf, getB_nil]
        subst ho
        (try simp only [Exit.inBlock, Exit.then])
        refine bodyPost_ret (results_entry3 rfl _ _ w.heap.size 54 _ _ rfl (heap_alloc_new w _) (by exact size23)) rfl ?_
        exact ⟨⟨⟨_, _, _, _⟩, _, rfl⟩, bel_alloc _ _⟩
end Go.Proofs.YtecacjddggljgaaDoor
namespace Go.Proofs.YtecacjddggljgaaDoor
open Go.RowKit Go.Sort Go.Shelf
set_option linter.unusedSectionVars false
variable [Inhabited E]
/-- An entry of at most so many bytes. -/
def cutE (a b : Nat) (e : E) : E := ⟨e.key.extract 0 (min e.key.size a), e.value.extract 0 (min e.value.size b), e.del, e.seq⟩
/-- At most so many entries, each cut. -/
def fewS (a b most : Nat) (es : List E) : List E := (es.take most).map (cutE a b)
theorem fewS_len (a b most : Nat) (es : List E) : (fewS a b most es).length = min most es.length := by rw [fewS, List.length_map, List.length_take]
theorem fewS_snoc (a b i : Nat) (es : List E) (h : i < es.length) : fewS a b (i + 1) es = fewS a b i es ++ [cutE a b es[i]!] := by
  unfold fewS
  rw [List.take_succ_eq_append_getElem h, getElem!_pos es i h, List.map_append, List.map_singleton]
theorem fewS_all (a b i : Nat) (es : List E) (h : es.length ≤ i) (j : Nat) (hj : es.length ≤ j) : fewS a b i es = fewS a b j es := by
  unfold fewS
  rw [List.take_of_length_le h, List.take_of_length_le hj]
theorem results_entry1 {fn : Func} {p : Tmp} (h : fn.results = #[.cell p 54]) (tmps : Array Value) (w : World) (g : Nat) (t : TypeId) (cs : Array Value) (fr : Nat × Nat)
    (hp : tmps.getD p undef = .pointer (some ⟨g, 0, none⟩)) (hg : w.heap[g]? = some (.cells cs t fr)) (hi : (Tryd.prog.info? 54).map (·.size) = some cs.size) :
    (results fn tmps).run Tryd.prog w = .ok (.agg cs) w := by
  have hp' : tmps[p]?.getD undef = .pointer (some ⟨g, 0, none⟩) := by simpa using hp
  simp [results, h, hp', asAddr, run_loadVar_row w g t 54 cs fr _ hg Tryd.underlying54 rfl hi]
theorem ents_at {w : World} {b off : Nat} {l : List E} (h : Ents w b off l) (i c : Nat) (hi : i < l.length) (hc : c < 4) : w.cell? ⟨b, off + i * 4 + c, none⟩ = some (encE l[i]!)[c]! := by
  have := h (i * 4 + c) _ ((flatE_at l i c hi hc).trans (encE_get! _ c hc))
  rwa [← Nat.add_assoc] at this
/-- The four cells of an entry. -/
theorem ents_four {w : World} {b off : Nat} {l : List E} (h : Ents w b off l) (i : Nat) (hi : i < l.length) {k v : ByteArray} {d : Bool} {q : Int} (hx : l[i]! = ⟨k, v, d, q⟩) :
    w.cell? ⟨b, off + i * 4, none⟩ = some (.string k) ∧ w.cell? ⟨b, off + i * 4 + 1, none⟩ = some (.string v) ∧ w.cell? ⟨b, off + i * 4 + 2, none⟩ = some (.bool d) ∧ w.cell? ⟨b, off + i * 4 + 3, none⟩ = some (.int .i64 q) := by
  have c0 := ents_at h i 0 hi (by decide)
  have c1 := ents_at h i 1 hi (by decide)
  have c2 := ents_at h i 2 hi (by decide)
  have c3 := ents_at h i 3 hi (by decide)
  rw [hx] at c0 c1 c2 c3
  exact ⟨c0, c1, c2, c3⟩
/-- All texts of entries are no longer than a text may be. -/
def Small (es : List E) : Prop := ∀ e ∈ es, e.key.size ≤ 9223372036854775807 ∧ e.value.size ≤ 9223372036854775807
theorem small_at {es : List E} (h : Small es) (i : Nat) (hi : i < es.length) {k v : ByteArray} {d : Bool} {q : Int} (hx : es[i]! = ⟨k, v, d, q⟩) : k.size ≤ 9223372036854775807 ∧ v.size ≤ 9223372036854775807 := by
  have := h es[i]! (by rw [getElem!_pos es i hi]; exact List.getElem_mem hi)
  rw [hx] at this
  exact this
/-- The cells of one entry, laid by a literal. -/
theorem ent_laid (w5 : World) (k0 v0 : ByteArray) (d0 : Bool) (q0 : Int) : ∀ j u, (encE (E.mk k0 v0 d0 q0))[j]? = some u → (w5.alloc (Obj.cells #[.string k0, .string v0, .bool d0, .int .i64 q0] 54)).cell? ((⟨w5.heap.size, 0, none⟩ : Addr).add j) = some u := by
  intro j u hu
  have hb : (w5.alloc (Obj.cells #[.string k0, .string v0, .bool d0, .int .i64 q0] 54)).heap[w5.heap.size]? = some (Obj.cells #[.string k0, .string v0, .bool d0, .int .i64 q0] 54) := by rw [heap_alloc_get, if_pos rfl]
  rw [Addr.add_lit, Nat.zero_add, cell_of_row _ _ _ _ _ _ hb, ← hu]
  simp [encE]
theorem take_snoc {α : Type} [Inhabited α] (es : List α) (i : Nat) (h : i < es.length) : es.take (i + 1) = es.take i ++ [es[i]!] := by
  rw [List.take_succ_eq_append_getElem h, getElem!_pos es i h]
/-- How many keys are below, and whether it is there. -/
def belowN (key : ByteArray) (es : List E) : Nat := es.countP fun e => decide (cmpS e.key key < 0)
def isIn (key : ByteArray) (es : List E) : Bool := es.any fun e => decide (e.key = key)
theorem belowN_le (key : ByteArray) (es : List E) : belowN key es ≤ es.length := List.countP_le_length
set_option maxRecDepth 100000 in
set_option maxHeartbeats 2000000 in
theorem find_any (ao : Option Addr) (n c : Nat) (es : List E) (key : ByteArray) (w : World) (hE : EntsV w ao n es) (hbig : n ≤ 1000000000000) :
    Calls Tryd.prog 31 #[.slice ao n c, .string key] w fun e w' => e = .returned (.tuple #[.int .i64 (belowN key es : Nat), .bool (isIn key es)]) ∧ Below w.heap.size w w' := by
  have HE : Hid _ := hE
  clear hE
  go_enter Tryd.func31, Tryd.ntmps31
  go_wp2
  go_loopw [6, 7, 9, 12] (fun s6 s7 s9 x wr => ∃ i : Nat, x = .int .i64 i ∧ i ≤ n ∧ s6 = .int .i64 (belowN key (es.take i) : Nat) ∧ s7 = .bool (isIn key (es.take i)) ∧ Below w.heap.size w wr) (fun _ _ _ x _ => n - (intOf x).toNat)
  case atStart => exact ⟨0, rfl, by omega, rfl, rfl, Below.refl _ _⟩
  case round =>
    obtain ⟨i, rfl, hin, rfl, rfl, hbel⟩ := hrel
    by_cases hlt : i < n
    · have hltz : (i : Int) < (n : Int) := by omega
      obtain ⟨b, off, hao, hEn⟩ := HE.out.2 (by omega)
      have hln := HE.out.1
      have hEr : Ents wr b off es := hEn.below hbel (Nat.le_refl _)
      obtain ⟨k0, v0, d0, q0, HX⟩ : ∃ k0 v0 d0 q0, Hid (es[i]! = E.mk k0 v0 d0 q0) := ⟨_, _, _, _, rfl⟩
      obtain ⟨c0, c1, c2, c3⟩ := ents_four hEr i (by omega) HX.out
      subst hao
      obtain ⟨m, HM⟩ : ∃ m, Hid (belowN key (es.take i) = m) := ⟨_, rfl⟩
      obtain ⟨y, HY⟩ : ∃ y, Hid (isIn key (es.take i) = y) := ⟨_, rfl⟩
      rw [HM.out, HY.out]
      have hm : m ≤ n := by rw [← HM.out]; have := belowN_le key (es.take i); rw [List.length_take] at this; omega
      have HM2 : Hid (belowN key (es.take (i + 1)) = m + if cmpS k0 key < 0 then 1 else 0) := by
        show _ = _
        rw [take_snoc es i (by omega), HX.out, ← HM.out]
        unfold belowN
        rw [List.countP_append]
        by_cases h : cmpS k0 key < 0 <;> simp [h]
      have HY2 : Hid (isIn key (es.take (i + 1)) = (y || decide (k0 = key))) := by
        show _ = _
        rw [take_snoc es i (by omega), HX.out, ← HY.out]
        unfold isIn
        rw [List.any_append]
        simp
      have HB : Hid _ := hbel
      clear hEr hEn hbel hln
      have e1 := less_cmpS k0 key
      have e2 := eq_cmpS k0 key
      by_cases h1 : cmpS k0 key < 0
      · have e1' : Op.bytesLess k0.toList key.toList = true := by rw [e1]; exact decide_eq_true h1
        have h2 : ¬ k0 = key := fun h => by rw [h] at h1; have := cmpS_ord.self key; omega
        have e2' : (k0.toList == key.toList) = false := by rw [e2]; exact decide_eq_false h2
        clear e1 e2
        go_wp2
        go_roundw
        case rel => exact ⟨i + 1, by go_num, by omega, by rw [HM2.out, if_pos h1]; go_num, by rw [HY2.out, decide_eq_false h2, Bool.or_false], HB.out.alloc HB.out.size _⟩
        case measure => simp [intOf]; omega
      · have e1' : Op.bytesLess k0.toList key.toList = false := by rw [e1]; exact decide_eq_false h1
        by_cases h2 : k0 = key
        · have e2' : (k0.toList == key.toList) = true := by rw [e2]; exact decide_eq_true h2
          have H2 : Hid _ := h2
          clear e1 e2 h2
          go_wp2
          go_roundw
          case rel => exact ⟨i + 1, by go_num, by omega, by rw [HM2.out, if_neg h1]; rfl, by rw [HY2.out, decide_eq_true H2.out, Bool.or_true], HB.out.alloc HB.out.size _⟩
          case measure => simp [intOf]; omega
        · have e2' : (k0.toList == key.toList) = false := by rw [e2]; exact decide_eq_false h2
          clear e1 e2
          go_wp2
          go_roundw
          case rel => exact ⟨i + 1, by go_num, by omega, by rw [HM2.out, if_neg h1]; rfl, by rw [HY2.out, decide_eq_false h2, Bool.or_false], HB.out.alloc HB.out.size _⟩
          case measure => simp [intOf]; omega
    · have hltz : ¬ (i : Int) < (n : Int) := by omega
      have HT : Hid (es.take i = es) := by show _ = _; rw [List.take_of_length_le (by rw [HE.out.1]; omega)]
      rw [HT.out]
      obtain ⟨m, HM⟩ : ∃ m, Hid (belowN key es = m) := ⟨_, rfl⟩
      obtain ⟨y, HY⟩ : ∃ y, Hid (isIn key es = y) := ⟨_, rfl⟩
      rw [HM.out, HY.out]
      go_wp2
      go_ret2
      exact ⟨by rw [HM.out, HY.out]; rfl, hbel⟩
/-- Each key above the one ahead, as a test. -/
def sortedB : List E → Bool
  | a :: b :: r => decide (cmpS a.key b.key < 0) && sortedB (b :: r)
  | _ => true
theorem sortedB_at : ∀ (es : List E), sortedB es = true ↔ ∀ i, i + 1 < es.length → cmpS es[i]!.key es[i + 1]!.key < 0
  | [] => by simp [sortedB]
  | [a] => by simp [sortedB]
  | a :: b :: r => by
    rw [sortedB, Bool.and_eq_true, sortedB_at (b :: r)]
    constructor
    · rintro ⟨h1, h2⟩ i hi
      cases i with
      | zero => simpa using h1
      | succ i => simpa using h2 i (by simpa using hi)
    · intro h
      exact ⟨by simpa using h 0 (by simp), fun i hi => by simpa using h (i + 1) (by simpa using hi)⟩
theorem sortedB_ks : ∀ {es : List E}, sortedB es = true ↔ Ks es
  | [] => by simp [sortedB, Ks]
  | [a] => by simp [sortedB, Ks]
  | a :: b :: r => by
    rw [sortedB, Bool.and_eq_true, sortedB_ks (es := b :: r), decide_eq_true_eq]
    constructor
    · rintro ⟨h1, h2⟩
      refine List.pairwise_cons.2 ⟨fun y hy => ?_, h2⟩
      rcases List.mem_cons.1 hy with rfl | hy
      · exact h1
      · exact cmpS_ord.ltle h1 (by have := (List.pairwise_cons.1 h2).1 y hy; omega)
    · intro h
      have h' := List.pairwise_cons.1 h
      exact ⟨h'.1 b (by simp), h'.2⟩
set_option maxRecDepth 100000 in
set_option maxHeartbeats 2000000 in
theorem sorted_any (ao : Option Addr) (n c : Nat) (es : List E) (w : World) (hE : EntsV w ao n es) (hbig : n ≤ 1000000000000) :
    Calls Tryd.prog 56 #[.slice ao n c] w fun e w' => e = .returned (.bool (sortedB es)) ∧ Below w.heap.size w w' := by
  have HE : Hid _ := hE
  clear hE
  go_enter Tryd.func56, Tryd.ntmps56
  go_wp2
  go_loopw [3] (fun x wr => ∃ i : Nat, x = .int .i64 (i + 1 : Nat) ∧ (i = 0 ∨ i + 1 ≤ n) ∧ Hid (∀ j, j < i → j + 1 < es.length → cmpS es[j]!.key es[j + 1]!.key < 0) ∧ Below w.heap.size w wr) (fun x _ => n - (intOf x).toNat)
  case atStart => exact ⟨0, rfl, .inl rfl, (fun j h => absurd h (by omega)), Below.refl _ _⟩
  case round =>
    obtain ⟨i, rfl, hin, HS, hbel⟩ := hrel
    by_cases hlt : i + 1 < n
    · have hltz : (i : Int) + 1 < (n : Int) := by omega
      obtain ⟨b, off, hao, hEn⟩ := HE.out.2 (by omega)
      have hln := HE.out.1
      have hEr : Ents wr b off es := hEn.below hbel (Nat.le_refl _)
      obtain ⟨k0, v0, d0, q0, HX⟩ : ∃ k0 v0 d0 q0, Hid (es[i]! = E.mk k0 v0 d0 q0) := ⟨_, _, _, _, rfl⟩
      obtain ⟨k1, v1, d1, q1, HY⟩ : ∃ k0 v0 d0 q0, Hid (es[i + 1]! = E.mk k0 v0 d0 q0) := ⟨_, _, _, _, rfl⟩
      obtain ⟨c0, -, -, -⟩ := ents_four hEr i (by omega) HX.out
      obtain ⟨c1, -, -, -⟩ := ents_four hEr (i + 1) (by omega) HY.out
      subst hao
      have HB : Hid _ := hbel
      clear hEr hEn hbel hin
      have HLN : Hid _ := hln
      clear hln
      have e1 := less_cmpS k1 k0
      have e2 := eq_cmpS k1 k0
      by_cases h1 : cmpS k0 k1 < 0
      · have h3 : ¬ cmpS k1 k0 < 0 := by have := cmpS_ord.anti k0 k1; omega
        have h2 : ¬ k1 = k0 := fun h => by rw [h] at h1; have := cmpS_ord.self k0; omega
        have e1' : Op.bytesLess k1.toList k0.toList = false := by rw [e1]; exact decide_eq_false h3
        have e2' : (k1.toList == k0.toList) = false := by rw [e2]; exact decide_eq_false h2
        clear e1 e2
        go_wp2_with fail
        go_quiet (fail)
        go_wp2
        go_roundw
        case rel =>
          refine ⟨i + 1, by go_num, .inr (by omega), (fun j hj hj2 => ?_), bel_drewN HB.out nq⟩
          by_cases e : j = i
          · subst e; rw [HX.out, HY.out]; exact h1
          · exact HS.out j (by omega) hj2
        case measure => simp [intOf]; omega
      · have hf : Hid (sortedB es = false) := by
          show _ = _
          cases hh : sortedB es with
          | false => rfl
          | true =>
            have := (sortedB_at es).1 hh i (by rw [HLN.out]; omega)
            rw [HX.out, HY.out] at this
            exact absurd this h1
        by_cases h2 : k1 = k0
        · have e2' : (k1.toList == k0.toList) = true := by rw [e2]; exact decide_eq_true h2
          have e1' : Op.bytesLess k1.toList k0.toList = false := by rw [e1]; exact decide_eq_false (by rw [h2]; have := cmpS_ord.self k0; omega)
          clear e1 e2 h2
          go_wp2_with fail
          go_quiet (fail)
          go_wp2
          go_ret
          exact ⟨by rw [hf.out]; rfl, bel_drewN HB.out nq⟩
        · have e2' : (k1.toList == k0.toList) = false := by rw [e2]; exact decide_eq_false h2
          have h3 : cmpS k1 k0 < 0 := by
            have a1 := cmpS_ord.anti k0 k1; have a2 := cmpS_ord.anti k1 k0
            have a3 : cmpS k1 k0 ≠ 0 := fun h => h2 (cmpS_eq.1 h)
            omega
          have e1' : Op.bytesLess k1.toList k0.toList = true := by rw [e1]; exact decide_eq_true h3
          clear e1 e2
          go_wp2_with fail
          go_quiet (fail)
          go_wp2
          go_ret
          exact ⟨by rw [hf.out]; rfl, bel_drewN HB.out nq⟩
    · have hltz : ¬ (i : Int) + 1 < (n : Int) := by omega
      have ht : Hid (sortedB es = true) := (sortedB_at es).2 fun j hj => HS.out j (by rw [HE.out.1] at hj; omega) hj
      go_wp2
      go_ret
      exact ⟨by rw [ht.out]; rfl, hbel⟩
end Go.Proofs.YtecacjddggljgaaDoor
namespace Go.Proofs.YtecacjddggljgaaDoor
open Go.RowKit Go.Sort Go.Shelf
set_option linter.unusedSectionVars false
variable [Inhabited E] [DecidableEq E]
def belB (k hi : ByteArray) : Bool := decide (hi = ByteArray.empty) || decide (cmpS k hi < 0)
def covB (f l k : ByteArray) : Bool := decide (cmpS f k ≤ 0) && decide (cmpS k l ≤ 0)
def ovB (f l lo hi : ByteArray) : Bool := belB lo hi && decide (cmpS lo l ≤ 0) && belB f hi
theorem eq_nil (hi : ByteArray) : (hi.toList == []) = decide (hi = ByteArray.empty) := by
  have h := eq_cmpS hi ByteArray.empty
  rwa [show ByteArray.empty.toList = [] from by decide +kernel] at h
theorem le_cmpS (a b : ByteArray) : (Op.bytesLess a.toList b.toList || (a.toList == b.toList)) = decide (cmpS a b ≤ 0) := by
  rw [less_cmpS, eq_cmpS]
  by_cases h : a = b
  · subst h; have := cmpS_ord.self a; simp [this]
  · have h2 : cmpS a b ≠ 0 := fun h3 => h (cmpS_eq.1 h3)
    rw [decide_eq_false h, Bool.or_false]
    exact decide_eq_decide.2 ⟨fun x => by omega, fun x => by omega⟩
theorem le_cases (a b : ByteArray) : (Op.bytesLess a.toList b.toList = true ∧ decide (cmpS a b ≤ 0) = true) ∨ (Op.bytesLess a.toList b.toList = false ∧ (a.toList == b.toList) = true ∧ decide (cmpS a b ≤ 0) = true) ∨ (Op.bytesLess a.toList b.toList = false ∧ (a.toList == b.toList) = false ∧ decide (cmpS a b ≤ 0) = false) := by
  have h := le_cmpS a b
  cases h1 : Op.bytesLess a.toList b.toList <;> cases h2 : (a.toList == b.toList) <;> rw [h1, h2] at h <;> simp_all
set_option maxRecDepth 100000 in
theorem below_any (k hi : ByteArray) (w : World) : Calls Tryd.prog 48 #[.string k, .string hi] w fun e w' => e = .returned (.bool (belB k hi)) ∧ Below w.heap.size w w' := by
  have e1 := less_cmpS k hi
  have e2 := eq_nil hi
  obtain ⟨B, HB⟩ : ∃ x, Hid (belB k hi = x) := ⟨_, rfl⟩
  rw [HB.out]
  go_enter Tryd.func48, Tryd.ntmps48
  by_cases h1 : hi = ByteArray.empty
  · have e2' : (hi.toList == []) = true := by rw [e2]; exact decide_eq_true h1
    have H1 : Hid _ := h1
    clear e1 e2 h1
    go_wp2
    go_ret
    exact ⟨by rw [← HB.out]; unfold belB; rw [decide_eq_true H1.out]; rfl, Below.refl _ _⟩
  · have e2' : (hi.toList == []) = false := by rw [e2]; exact decide_eq_false h1
    have H1 : Hid _ := h1
    clear e2 h1
    by_cases h2 : cmpS k hi < 0
    · have e1' : Op.bytesLess k.toList hi.toList = true := by rw [e1]; exact decide_eq_true h2
      have H2 : Hid _ := h2
      clear e1 h2
      go_wp2
      go_ret
      exact ⟨by rw [← HB.out]; unfold belB; rw [decide_eq_false H1.out, decide_eq_true H2.out]; rfl, Below.refl _ _⟩
    · have e1' : Op.bytesLess k.toList hi.toList = false := by rw [e1]; exact decide_eq_false h2
      have H2 : Hid _ := h2
      clear e1 h2
      go_wp2
      go_ret
      exact ⟨by rw [← HB.out]; unfold belB; rw [decide_eq_false H1.out, decide_eq_false H2.out]; rfl, Below.refl _ _⟩
theorem cell_kept {B : Nat} {w w' : World} (h : Below B w w') {g i : Nat} {v : Value} (hg : g < B) (hc : w.cell? ⟨g, i, none⟩ = some v) : w'.cell? ⟨g, i, none⟩ = some v := by
  simp only [World.cell?] at hc ⊢
  rw [h.block g hg]; exact hc
/-- A table's two keys, read where it lies. -/
theorem box_keys (w : World) (cells : Array Value) (t : TypeId) (i : Nat) (v : Value) (h : cells[i]? = some v) : (w.alloc (.cells cells t)).cell? ⟨w.heap.size, i, none⟩ = some v := by
  rw [cell_of_row _ _ _ _ _ _ (show (w.alloc (Obj.cells cells t)).heap[w.heap.size]? = some (Obj.cells cells t (0, 0)) by rw [heap_alloc_get, if_pos rfl])]
  exact h
set_option maxRecDepth 100000 in
theorem covers_any (cells : Array Value) (f l k : ByteArray) (w : World) (hf : cells[34]? = some (.string f)) (hl : cells[35]? = some (.string l)) : Calls Tryd.prog 18 #[.agg cells, .string k] w fun e w' => e = .returned (.bool (covB f l k)) ∧ Below w.heap.size w w' := by
  have c1 := box_keys w cells 48 34 _ hf
  have c2 := box_keys w cells 48 35 _ hl
  have HU : Hid (∀ x y, decide (cmpS f k ≤ 0) = x → decide (cmpS k l ≤ 0) = y → covB f l k = (x && y)) := fun x y hx hy => by unfold covB; rw [hx, hy]
  obtain ⟨B, HB⟩ : ∃ x, Hid (covB f l k = x) := ⟨_, rfl⟩
  rw [HB.out]
  clear hf hl
  go_enter Tryd.func18, Tryd.ntmps18
  rcases le_cases f k with ⟨a1, a3⟩ | ⟨a1, a2, a3⟩ | ⟨a1, a2, a3⟩ <;> rcases le_cases k l with ⟨b1, b3⟩ | ⟨b1, b2, b3⟩ | ⟨b1, b2, b3⟩ <;>
    (have A3 : Hid _ := HU.out _ _ a3 b3
     clear a3 b3 HU
     go_wp2
     go_ret
     exact ⟨by rw [← HB.out, A3.out]; rfl, bel_alloc _ _⟩)
set_option maxRecDepth 100000 in
set_option maxHeartbeats 2000000 in
theorem overlaps_any (cells : Array Value) (f l lo hi : ByteArray) (w : World) (hf : cells[34]? = some (.string f)) (hl : cells[35]? = some (.string l)) : Calls Tryd.prog 20 #[.agg cells, .string lo, .string hi] w fun e w' => e = .returned (.bool (ovB f l lo hi)) ∧ Below w.heap.size w w' := by
  have c1 := box_keys w cells 48 34 _ hf
  have c2 := box_keys w cells 48 35 _ hl
  obtain ⟨B, HB⟩ : ∃ x, Hid (ovB f l lo hi = x) := ⟨_, rfl⟩
  rw [HB.out]
  clear hf hl
  go_enter Tryd.func20, Tryd.ntmps20
  obtain ⟨x, HX⟩ : ∃ x, Hid (belB lo hi = x) := ⟨_, rfl⟩
  obtain ⟨y, HY⟩ : ∃ x, Hid (belB f hi = x) := ⟨_, rfl⟩
  have k1 : Aside (∀ w, Calls Tryd.prog 48 #[.string lo, .string hi] w fun e w' => e = .returned (.bool x) ∧ Below w.heap.size w w') := fun w => by rw [← HX.out]; exact below_any lo hi w
  have k2 : Aside (∀ w, Calls Tryd.prog 48 #[.string f, .string hi] w fun e w' => e = .returned (.bool y) ∧ Below w.heap.size w w') := fun w => by rw [← HY.out]; exact below_any f hi w
  have HR : Hid (B = (x && decide (cmpS lo l ≤ 0) && y)) := by show _ = _; rw [← HB.out, ← HX.out, ← HY.out]; rfl
  clear HX HY HB
  go_wp2_with fail
  refine (k1.out _).mono ?_
  rintro e w1 ⟨rfl, hb1⟩
  have d1 := cell_kept hb1 (by simp) c1
  have d2 := cell_kept hb1 (by simp) c2
  have HB1 : Hid (Below w.heap.size w w1) := (bel_alloc w _).trans (hb1.mono (by simp))
  clear c1 c2 hb1 k1
  cases x with
  | false =>
    go_wp2
    go_ret
    exact ⟨by rw [HR.out]; rfl, HB1.out⟩
  | true =>
    have HF : Hid (decide (cmpS lo l ≤ 0) = false → B = false) := fun h => by rw [HR.out, h]; rfl
    have HT : Hid (decide (cmpS lo l ≤ 0) = true → B = y) := fun h => by rw [HR.out, h]; rfl
    clear HR
    rcases le_cases lo l with ⟨a1, a3⟩ | ⟨a1, a2, a3⟩ | ⟨a1, a2, a3⟩
    · have A3 : Hid _ := HT.out a3
      clear a3 HT HF
      go_wp2_with fail
      refine (k2.out _).mono ?_
      rintro e w2 ⟨rfl, hb2⟩
      have HB2 : Hid (Below w.heap.size w w2) := HB1.out.trans (hb2.mono HB1.out.size)
      clear hb2 d1 d2
      go_wp2
      go_ret
      exact ⟨by rw [A3.out]; rfl, HB2.out⟩
    · have A3 : Hid _ := HT.out a3
      clear a3 HT HF
      go_wp2_with fail
      refine (k2.out _).mono ?_
      rintro e w2 ⟨rfl, hb2⟩
      have HB2 : Hid (Below w.heap.size w w2) := HB1.out.trans (hb2.mono HB1.out.size)
      clear hb2 d1 d2
      go_wp2
      go_ret
      exact ⟨by rw [A3.out]; rfl, HB2.out⟩
    · have A3 : Hid _ := HF.out a3
      clear a3 HT HF
      go_wp2
      go_ret
      exact ⟨by rw [A3.out]; rfl, HB1.out⟩
end Go.Proofs.YtecacjddggljgaaDoor

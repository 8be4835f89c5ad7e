/-
  What entry.read answers: a contract over this translation.
-/
import Derived.Test.YteemfhhhdhddhaaBytes
namespace Go.Proofs.Yteemfhhhdhddhaa
open Go.RowKit Go.Sort Go.Shelf
set_option linter.unusedSectionVars false
variable [Inhabited E]
/-- An entry read off the front of bytes, and how many they are. -/
def readOf (bs : List UInt8) : Option (E × Nat) :=
  match bs with
  | [] => none
  | t :: r =>
    if 1 < t.toNat then none else
    if (getB r).2.2 = false then none else
    if (textOf (r.drop (getB r).2.1)).2.2 = false then none else
    if t.toNat = 1 then some (⟨⟨(textOf (r.drop (getB r).2.1)).1.toArray⟩, ⟨#[]⟩, true, wrap64 ((getB r).1 : Int)⟩, 1 + (getB r).2.1 + (textOf (r.drop (getB r).2.1)).2.1) else
    if (textOf (r.drop ((getB r).2.1 + (textOf (r.drop (getB r).2.1)).2.1))).2.2 = false then none else
    some (⟨⟨(textOf (r.drop (getB r).2.1)).1.toArray⟩, ⟨(textOf (r.drop ((getB r).2.1 + (textOf (r.drop (getB r).2.1)).2.1))).1.toArray⟩, false, wrap64 ((getB r).1 : Int)⟩, 1 + (getB r).2.1 + (textOf (r.drop (getB r).2.1)).2.1 + (textOf (r.drop ((getB r).2.1 + (textOf (r.drop (getB r).2.1)).2.1))).2.1)
def ReadSays (o : Option (E × Nat)) (e : Ending) : Prop :=
  match o with
  | some (x, n) => e = .returned (.tuple #[.agg (encE x).toArray, .int .i64 (n : Nat), .bool true])
  | none => ∃ (x : E) (n : Int), e = .returned (.tuple #[.agg (encE x).toArray, .int .i64 n, .bool false])
theorem textOf_nil : textOf [] = ([], 0, false) := rfl
theorem getB_nil : getB [] = (0, 0, false) := rfl
theorem textOf_len (bs : List UInt8) (h : (textOf bs).2.2 = true) : (textOf bs).2.1 ≤ bs.length := by
  unfold textOf at h ⊢
  split at h
  · cases h
  · rename_i hc
    rw [if_neg hc]
    have h1 : (getB bs).2.2 = true := by cases hh : (getB bs).2.2 with | true => rfl | false => exact absurd (.inl hh) hc
    have := getB_once bs (getB bs).1 (getB bs).2.1 (by rw [← h1])
    simp only
    omega
theorem results_entry3 {fn : Func} {p u v : Tmp} (h : fn.results = #[.cell p 23, .tmp u, .tmp v]) (tmps : Array Value) (w : World) (g : Nat) (t : TypeId) (cs : Array Value) (fr : Nat × Nat)
    (hp : tmps.getD p undef = .pointer (some ⟨g, 0, none⟩)) (hg : w.heap[g]? = some (.cells cs t fr)) (hi : (Try.prog.info? 23).map (·.size) = some cs.size) :
    (results fn tmps).run Try.prog w = .ok (.tuple #[.agg cs, tmps.getD u undef, tmps.getD v undef]) w := by
  have hp' : tmps[p]?.getD undef = .pointer (some ⟨g, 0, none⟩) := by simpa using hp
  simp [results, h, hp', asAddr, run_loadVar_row w g t 23 cs fr _ hg Try.underlying23 rfl hi]
theorem size23 : (Try.prog.info? 23).map (·.size) = some 4 := by kernel_rfl
set_option maxRecDepth 100000 in
set_option maxHeartbeats 4000000 in
theorem read_cells (b off len cap : Nat) (t : UInt8) (r : List UInt8) (w : World) (hb : Bytes w (some ⟨b, off, none⟩) len (t :: r)) (hlc : len ≤ cap) (hmax : cap ≤ 9223372036854775807) :
    Calls Try.prog 45 #[.slice (some ⟨b, off, none⟩) len cap] w fun e w' => ReadSays (readOf (t :: r)) e ∧ Below w.heap.size w w' := by
  have HLEN : Hid (len = r.length + 1) := by show _ = _; have := hb.1; simp at this; omega
  have hp : (0 : Int) < (len : Int) := by have := HLEN.out; omega
  have q4 : ((len : Int) == 0) = false := by simp; omega
  have hcp : (1 : Int) ≤ (cap : Int) := by omega
  have hlc' : (len : Int) ≤ (cap : Int) := by omega
  have c0 : w.cell? ⟨b, off, none⟩ = some (.int .u8 (t.toNat : Int)) := by
    obtain ⟨x, hx, hc⟩ := hb.2 0 t rfl
    cases hx
    exact hc
  have hbA : ∀ o, Bytes (w.alloc o) (some ⟨b, off, none⟩) len (t :: r) := fun o => bytes_kept hb (bel_alloc w o) (Nat.le_refl _)
  by_cases h2 : 1 < t.toNat
  · have HR : Hid (readOf (t :: r) = none) := by show _ = _; simp only [readOf]; rw [if_pos h2]
    rw [HR.out]
    have q0 : ((t.toNat : Int) == 0) = false := by simp; omega
    have q1 : ((t.toNat : Int) == 1) = false := by simp; omega
    have p0 : ((t.toNat : Int) != 0) = true := by simp; omega
    have p1 : ((t.toNat : Int) != 1) = true := by simp; omega
    have q2 : ¬ ((t.toNat : Int) = 0) := by omega
    have q3 : ¬ ((t.toNat : Int) = 1) := by omega
    have cA := fun o => bel_cell (bel_alloc w o) (Nat.le_refl _) c0
    clear hb hbA c0
    go_enter Try.func45, Try.ntmps45
    go_wp2
    (try simp only [Exit.inBlock, Exit.then])
    refine bodyPost_ret (results_entry3 rfl _ _ w.heap.size 23 _ _ rfl (heap_alloc_new w _) (by exact size23)) rfl ?_
    exact ⟨⟨⟨.empty, .empty, false, 0⟩, 0, rfl⟩, bel_alloc _ _⟩
  · have ht : t = 0 ∨ t = 1 := by
      have h3 : t.toNat = 0 ∨ t.toNat = 1 := by omega
      rcases h3 with h3 | h3
      · left; exact UInt8.toNat_inj.1 h3
      · right; exact UInt8.toNat_inj.1 h3
    clear h2
    rcases ht with rfl | rfl
    · have c0' : w.cell? ⟨b, off, none⟩ = some (.int .u8 0) := c0
      have cA := fun o => bel_cell (bel_alloc w o) (Nat.le_refl _) c0'
      clear c0 c0'
      obtain ⟨o, HO⟩ : ∃ o, Hid (readOf (0 :: r) = o) := ⟨_, rfl⟩
      rw [HO.out]
      obtain ⟨⟨v, n, ok⟩, HG⟩ : ∃ x, Hid (getB r = x) := ⟨_, rfl⟩
      by_cases hc1 : 1 < cap
      · have hc1' : (1 : Int) < (cap : Int) := by omega
        have CG := fun o => get_any (some ⟨b, off + 1, none⟩) (len - 1) (cap - 1) r (w.alloc o) (bytes_drop (hbA o) 1) (by omega)
        rw [HG.out] at CG
        have HCG : Hid _ := CG
        have HBA : Hid _ := hbA
        clear CG hb hbA
        cases ok with
        | false =>
          go_enter Try.func45, Try.ntmps45
          go_wp2_with fail
          refine (HCG.out _).mono ?_
          rintro e w2 ⟨rfl, rfl⟩
          go_wp2_with fail
          have ho : o = none := by rw [← HO.out]; simp [readOf, HG.out]
          subst ho
          (try simp only [Exit.inBlock, Exit.then])
          refine bodyPost_ret (results_entry3 rfl _ _ w.heap.size 23 _ _ rfl (heap_alloc_new w _) (by exact size23)) rfl ?_
          exact ⟨⟨⟨_, _, _, _⟩, _, rfl⟩, bel_alloc _ _⟩
        | true =>
          obtain ⟨hv, hn1, hn2, -, -⟩ := getB_once r v n HG.out
          have hnl : 1 + n ≤ len := by have := HLEN.out; omega
          have hnl' : (1 : Int) + (n : Int) ≤ (cap : Int) := by omega
          obtain ⟨⟨k, m, ok2⟩, HT⟩ : ∃ x, Hid (textOf (r.drop n) = x) := ⟨_, rfl⟩
          by_cases hc2 : 1 + n < cap
          · have hc2' : (1 : Int) + (n : Int) < (cap : Int) := by omega
            have CT := fun o => text_any (some ⟨b, off + (1 + n), none⟩) (len - (1 + n)) (cap - (1 + n)) (r.drop n) (w.alloc o) (by have := bytes_drop (HBA.out o) (1 + n); rwa [show (0 :: r).drop (1 + n) = r.drop n by rw [Nat.add_comm]; rfl] at this) (by omega) (by omega)
            rw [HT.out] at CT
            have HCT : Hid _ := CT
            clear CT
            go_enter Try.func45, Try.ntmps45
            go_wp2_with fail
            refine (HCG.out _).mono ?_
            rintro e w2 ⟨rfl, rfl⟩
            go_wp2_with fail
            refine (HCT.out _).mono ?_
            rintro e w3 ⟨rfl, rfl⟩
            cases ok2 with
            | false =>
              go_wp2_with fail
              have ho : o = none := by rw [← HO.out]; simp [readOf, HG.out, HT.out]
              subst ho
              (try simp only [Exit.inBlock, Exit.then])
              refine bodyPost_ret (results_entry3 rfl _ _ w.heap.size 23 _ _ rfl (heap_alloc_new w _) (by exact size23)) rfl ?_
              exact ⟨⟨⟨_, _, _, _⟩, _, rfl⟩, bel_alloc _ _⟩
            | true =>
              have hm : m ≤ (r.drop n).length := by have := textOf_len (r.drop n) (by rw [HT.out]); rwa [HT.out] at this
              have hml : 1 + n + m ≤ len := by have := HLEN.out; rw [List.length_drop] at hm; omega
              have hml' : (1 : Int) + (n : Int) + (m : Int) ≤ (cap : Int) := by omega
              clear hm
              obtain ⟨⟨x, m3, ok3⟩, HU⟩ : ∃ y, Hid (textOf (r.drop (n + m)) = y) := ⟨_, rfl⟩
              by_cases hc3 : 1 + n + m < cap
              · have hc3' : (1 : Int) + (n : Int) + (m : Int) < (cap : Int) := by omega
                have CU := fun o => text_any (some ⟨b, off + (1 + n + m), none⟩) (len - (1 + n + m)) (cap - (1 + n + m)) (r.drop (n + m)) (w.alloc o) (by have := bytes_drop (HBA.out o) (1 + n + m); rwa [show (0 :: r).drop (1 + n + m) = r.drop (n + m) by rw [Nat.add_assoc, Nat.add_comm]; rfl] at this) (by omega) (by omega)
                rw [HU.out] at CU
                have HCU : Hid _ := CU
                clear CU
                go_wp2_with fail
                refine (HCU.out _).mono ?_
                rintro e w4 ⟨rfl, rfl⟩
                cases ok3 with
                | false =>
                  go_wp2_with fail
                  have ho : o = none := by rw [← HO.out]; simp [readOf, HG.out, HT.out, HU.out]
                  subst ho
                  (try simp only [Exit.inBlock, Exit.then])
                  refine bodyPost_ret (results_entry3 rfl _ _ w.heap.size 23 _ _ rfl (heap_alloc_new w _) (by exact size23)) rfl ?_
                  exact ⟨⟨⟨_, _, _, _⟩, _, rfl⟩, bel_alloc _ _⟩
                | true =>
                  have hm3 : m3 ≤ (r.drop (n + m)).length := by have := textOf_len (r.drop (n + m)) (by rw [HU.out]); rwa [HU.out] at this
                  have hml3 : (1 : Int) + (n : Int) + (m : Int) + (m3 : Int) ≤ (cap : Int) := by have := HLEN.out; rw [List.length_drop] at hm3; omega
                  clear hm3
                  go_wp2_with fail
                  have ho : o = some (⟨⟨k.toArray⟩, ⟨x.toArray⟩, false, wrap64 (v : Int)⟩, 1 + n + m + m3) := by rw [← HO.out]; simp [readOf, HG.out, HT.out, HU.out]
                  subst ho
                  (try simp only [Exit.inBlock, Exit.then])
                  refine bodyPost_ret (results_entry3 rfl _ _ w.heap.size 23 _ _ rfl (heap_alloc_new w _) (by exact size23)) rfl ?_
                  exact ⟨rfl, bel_alloc _ _⟩
              · have hcap : cap = 1 + n + m := by omega
                have HD : Hid (r.drop (n + m) = []) := by show _ = _; exact List.drop_eq_nil_of_le (by have := HLEN.out; omega)
                have CU := fun o => text_any (some ⟨b, off, none⟩) 0 0 [] (w.alloc o) ⟨rfl, fun i c hi => by simp at hi⟩ (by omega) (by omega)
                rw [show textOf [] = ([], 0, false) from rfl] at CU
                have HCU : Hid _ := CU
                clear CU
                have hcap' : (cap : Int) = (1 : Int) + (n : Int) + (m : Int) := by omega
                subst hcap
                go_wp2_with fail
                refine (HCU.out _).mono ?_
                rintro e w4 ⟨rfl, rfl⟩
                go_wp2_with fail
                have ho : o = none := by rw [← HO.out]; simp [readOf, HG.out, HT.out, HD.out, textOf_nil]
                subst ho
                (try simp only [Exit.inBlock, Exit.then])
                refine bodyPost_ret (results_entry3 rfl _ _ w.heap.size 23 _ _ rfl (heap_alloc_new w _) (by exact size23)) rfl ?_
                exact ⟨⟨⟨_, _, _, _⟩, _, rfl⟩, bel_alloc _ _⟩
          · have hcap : cap = 1 + n := by omega
            have HD : Hid (r.drop n = []) := by show _ = _; exact List.drop_eq_nil_of_le (by have := HLEN.out; omega)
            have CU := fun o => text_any (some ⟨b, off, none⟩) 0 0 [] (w.alloc o) ⟨rfl, fun i c hi => by simp at hi⟩ (by omega) (by omega)
            rw [show textOf [] = ([], 0, false) from rfl] at CU
            have HCU : Hid _ := CU
            clear CU
            have HCP : Hid (cap = 1 + n) := hcap
            clear hcap
            go_enter Try.func45, Try.ntmps45
            go_wp2_with fail
            refine (HCG.out _).mono ?_
            rintro e w2 ⟨rfl, rfl⟩
            obtain rfl := HCP.out
            go_wp2_with fail
            refine (HCU.out _).mono ?_
            rintro e w4 ⟨rfl, rfl⟩
            go_wp2_with fail
            have ho : o = none := by rw [← HO.out]; simp [readOf, HG.out, HD.out, textOf_nil]
            subst ho
            (try simp only [Exit.inBlock, Exit.then])
            refine bodyPost_ret (results_entry3 rfl _ _ w.heap.size 23 _ _ rfl (heap_alloc_new w _) (by exact size23)) rfl ?_
            exact ⟨⟨⟨_, _, _, _⟩, _, rfl⟩, bel_alloc _ _⟩
      · have hcap : cap = 1 := by omega
        have hr : r = [] := List.eq_nil_of_length_eq_zero (by have := HLEN.out; omega)
        subst hr
        have CU := fun o => get_any (some ⟨b, off, none⟩) 0 0 [] (w.alloc o) ⟨rfl, fun i c hi => by simp at hi⟩ (by omega)
        rw [show getB [] = (0, 0, false) from rfl] at CU
        have HCU : Hid _ := CU
        clear CU hb hbA
        have hl1 : len = 1 := by have := HLEN.out; simp at this; omega
        clear HLEN
        subst hcap
        subst hl1
        go_enter Try.func45, Try.ntmps45
        go_wp2_with fail
        refine (HCU.out _).mono ?_
        rintro e w4 ⟨rfl, rfl⟩
        go_wp2_with fail
        have ho : o = none := by rw [← HO.out]; simp [readOf, getB_nil]
        subst ho
        (try simp only [Exit.inBlock, Exit.then])
        refine bodyPost_ret (results_entry3 rfl _ _ w.heap.size 23 _ _ rfl (heap_alloc_new w _) (by exact size23)) rfl ?_
        exact ⟨⟨⟨_, _, _, _⟩, _, rfl⟩, bel_alloc _ _⟩
    · have c0' : w.cell? ⟨b, off, none⟩ = some (.int .u8 1) := c0
      have cA := fun o => bel_cell (bel_alloc w o) (Nat.le_refl _) c0'
      clear c0 c0'
      obtain ⟨o, HO⟩ : ∃ o, Hid (readOf (1 :: r) = o) := ⟨_, rfl⟩
      rw [HO.out]
      obtain ⟨⟨v, n, ok⟩, HG⟩ : ∃ x, Hid (getB r = x) := ⟨_, rfl⟩
      by_cases hc1 : 1 < cap
      · have hc1' : (1 : Int) < (cap : Int) := by omega
        have CG := fun o => get_any (some ⟨b, off + 1, none⟩) (len - 1) (cap - 1) r (w.alloc o) (bytes_drop (hbA o) 1) (by omega)
        rw [HG.out] at CG
        have HCG : Hid _ := CG
        have HBA : Hid _ := hbA
        clear CG hb hbA
        cases ok with
        | false =>
          go_enter Try.func45, Try.ntmps45
          go_wp2_with fail
          refine (HCG.out _).mono ?_
          rintro e w2 ⟨rfl, rfl⟩
          go_wp2_with fail
          have ho : o = none := by rw [← HO.out]; simp [readOf, HG.out]
          subst ho
          (try simp only [Exit.inBlock, Exit.then])
          refine bodyPost_ret (results_entry3 rfl _ _ w.heap.size 23 _ _ rfl (heap_alloc_new w _) (by exact size23)) rfl ?_
          exact ⟨⟨⟨_, _, _, _⟩, _, rfl⟩, bel_alloc _ _⟩
        | true =>
          obtain ⟨hv, hn1, hn2, -, -⟩ := getB_once r v n HG.out
          have hnl : 1 + n ≤ len := by have := HLEN.out; omega
          have hnl' : (1 : Int) + (n : Int) ≤ (cap : Int) := by omega
          obtain ⟨⟨k, m, ok2⟩, HT⟩ : ∃ x, Hid (textOf (r.drop n) = x) := ⟨_, rfl⟩
          by_cases hc2 : 1 + n < cap
          · have hc2' : (1 : Int) + (n : Int) < (cap : Int) := by omega
            have CT := fun o => text_any (some ⟨b, off + (1 + n), none⟩) (len - (1 + n)) (cap - (1 + n)) (r.drop n) (w.alloc o) (by have := bytes_drop (HBA.out o) (1 + n); rwa [show (1 :: r).drop (1 + n) = r.drop n by rw [Nat.add_comm]; rfl] at this) (by omega) (by omega)
            rw [HT.out] at CT
            have HCT : Hid _ := CT
            clear CT
            go_enter Try.func45, Try.ntmps45
            go_wp2_with fail
            refine (HCG.out _).mono ?_
            rintro e w2 ⟨rfl, rfl⟩
            go_wp2_with fail
            refine (HCT.out _).mono ?_
            rintro e w3 ⟨rfl, rfl⟩
            cases ok2 with
            | false =>
              go_wp2_with fail
              have ho : o = none := by rw [← HO.out]; simp [readOf, HG.out, HT.out]
              subst ho
              (try simp only [Exit.inBlock, Exit.then])
              refine bodyPost_ret (results_entry3 rfl _ _ w.heap.size 23 _ _ rfl (heap_alloc_new w _) (by exact size23)) rfl ?_
              exact ⟨⟨⟨_, _, _, _⟩, _, rfl⟩, bel_alloc _ _⟩
            | true =>
              have hm : m ≤ (r.drop n).length := by have := textOf_len (r.drop n) (by rw [HT.out]); rwa [HT.out] at this
              have hml : 1 + n + m ≤ len := by have := HLEN.out; rw [List.length_drop] at hm; omega
              have hml' : (1 : Int) + (n : Int) + (m : Int) ≤ (cap : Int) := by omega
              clear hm
              go_wp2_with fail
              have ho : o = some (⟨⟨k.toArray⟩, ⟨#[]⟩, true, wrap64 (v : Int)⟩, 1 + n + m) := by rw [← HO.out]; simp [readOf, HG.out, HT.out]
              subst ho
              (try simp only [Exit.inBlock, Exit.then])
              refine bodyPost_ret (results_entry3 rfl _ _ w.heap.size 23 _ _ rfl (heap_alloc_new w _) (by exact size23)) rfl ?_
              exact ⟨rfl, bel_alloc _ _⟩
          · have hcap : cap = 1 + n := by omega
            have HD : Hid (r.drop n = []) := by show _ = _; exact List.drop_eq_nil_of_le (by have := HLEN.out; omega)
            have CU := fun o => text_any (some ⟨b, off, none⟩) 0 0 [] (w.alloc o) ⟨rfl, fun i c hi => by simp at hi⟩ (by omega) (by omega)
            rw [show textOf [] = ([], 0, false) from rfl] at CU
            have HCU : Hid _ := CU
            clear CU
            have HCP : Hid (cap = 1 + n) := hcap
            clear hcap
            go_enter Try.func45, Try.ntmps45
            go_wp2_with fail
            refine (HCG.out _).mono ?_
            rintro e w2 ⟨rfl, rfl⟩
            obtain rfl := HCP.out
            go_wp2_with fail
            refine (HCU.out _).mono ?_
            rintro e w4 ⟨rfl, rfl⟩
            go_wp2_with fail
            have ho : o = none := by rw [← HO.out]; simp [readOf, HG.out, HD.out, textOf_nil]
            subst ho
            (try simp only [Exit.inBlock, Exit.then])
            refine bodyPost_ret (results_entry3 rfl _ _ w.heap.size 23 _ _ rfl (heap_alloc_new w _) (by exact size23)) rfl ?_
            exact ⟨⟨⟨_, _, _, _⟩, _, rfl⟩, bel_alloc _ _⟩
      · have hcap : cap = 1 := by omega
        have hr : r = [] := List.eq_nil_of_length_eq_zero (by have := HLEN.out; omega)
        subst hr
        have CU := fun o => get_any (some ⟨b, off, none⟩) 0 0 [] (w.alloc o) ⟨rfl, fun i c hi => by simp at hi⟩ (by omega)
        rw [show getB [] = (0, 0, false) from rfl] at CU
        have HCU : Hid _ := CU
        clear CU hb hbA
        have hl1 : len = 1 := by have := HLEN.out; simp at this; omega
        clear HLEN
        subst hcap
        subst hl1
        go_enter Try.func45, Try.ntmps45
        go_wp2_with fail
        refine (HCU.out _).mono ?_
        rintro e w4 ⟨rfl, rfl⟩
        go_wp2_with fail
        have ho : o = none := by rw [← HO.out]; simp [readOf, getB_nil]
        subst ho
        (try simp only [Exit.inBlock, Exit.then])
        refine bodyPost_ret (results_entry3 rfl _ _ w.heap.size 23 _ _ rfl (heap_alloc_new w _) (by exact size23)) rfl ?_
        exact ⟨⟨⟨_, _, _, _⟩, _, rfl⟩, bel_alloc _ _⟩
end Go.Proofs.Yteemfhhhdhddhaa

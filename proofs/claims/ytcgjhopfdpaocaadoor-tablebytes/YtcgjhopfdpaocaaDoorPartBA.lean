/-
  What the cursor's entry answers: a contract over this translation. An append to a row of the call's own, told with where the new row lies; bytes.Equal; block.footAt. What the closure that block.Parse defers does: contracts over this translation.
-/
import Derived.Test.YtcgjhopfdpaocaaDoorPartAB
import Derived.Test.YtcgjhopfdpaocaaDoorPartAJ
import Derived.Defers
import Derived.Recover
namespace Go.Proofs.YtcgjhopfdpaocaaDoor
open Go.RowKit Go.Sort Go.Shelf
set_option linter.unusedSectionVars false
variable [Inhabited E] [DecidableEq E]
def EntSays (g : Nat) (sl : Value) (at_ : Nat) (o : Option (E × Nat)) (e : Ending) (w' : World) : Prop :=
  match o with
  | some (x, k) => e = .returned (.agg (encE x).toArray) ∧ CurAt w' g sl (at_ + k)
  | none => e = .panicked nb
theorem CurAt.lt {w : World} {g : Nat} {v : Value} {at_ : Nat} (h : CurAt w g v at_) : g < w.heap.size := (Array.getElem?_eq_some_iff.1 h).1
theorem CurAt.below {w w' : World} {g B : Nat} {v : Value} {at_ : Nat} (h : CurAt w g v at_) (hb : Below B w w') (hB : w.heap.size ≤ B) : CurAt w' g v at_ := by
  unfold CurAt at h ⊢
  rw [hb.block g (Nat.lt_of_lt_of_le (Array.getElem?_eq_some_iff.1 h).1 hB), h]
theorem bytes_far {w w' : World} {b off n g : Nat} {bs : List UInt8} (h : Bytes w (some ⟨b, off, none⟩) n bs) (hg : w.grownBy w' (some g)) (hbl : b < w.heap.size) (hne : b ≠ g) : Bytes w' (some ⟨b, off, none⟩) n bs :=
  bytes_grown h hg (fun x hx => by cases hx; exact ⟨hbl, fun e => hne (by cases e; rfl)⟩)
theorem extract_key (ah : ByteArray) (sh : Nat) (s : List UInt8) : ah.extract 0 sh ++ ⟨s.toArray⟩ = keyE ah sh s := by
  have h := extract_strB ah 0 sh
  rw [Nat.zero_add, List.drop_zero] at h
  rw [h]
  exact bStr_add _ _
theorem gb_setn {a w : World} {g k : Nat} (h : a.grownBy w (some g)) (hk : a.heap.size ≤ k) (j : Nat) (v : Value) : a.grownBy (w.setCell ⟨k, j, none⟩ v) (some g) :=
  ⟨h.os, h.tape, h.output, by rw [show (w.setCell ⟨k, j, none⟩ v).heap.size = w.heap.size by simp]; exact h.size, fun i hi hn => by rw [Below.heap_setCell w ⟨k, j, none⟩ v i (show i ≠ k by omega)]; exact h.block i hi hn⟩
theorem gb_stores {a w : World} {g k : Nat} (h : a.grownBy w (some g)) (hk : a.heap.size ≤ k) (p q r t : Value) : a.grownBy ((((w.setCell ⟨k, 0, none⟩ p).setCell ⟨k, 1, none⟩ q).setCell ⟨k, 2, none⟩ r).setCell ⟨k, 3, none⟩ t) (some g) :=
  gb_setn (gb_setn (gb_setn (gb_setn h hk _ _) hk _ _) hk _ _) hk _ _
theorem cur_setn {w : World} {g k : Nat} {v : Value} {at_ : Nat} (h : CurAt w g v at_) (hk : g ≠ k) (j : Nat) (x : Value) : CurAt (w.setCell ⟨k, j, none⟩ x) g v at_ := by
  unfold CurAt at h ⊢
  rw [Below.heap_setCell w ⟨k, j, none⟩ x g hk]
  exact h
theorem cur_stores {w : World} {g k : Nat} {v : Value} {at_ : Nat} (h : CurAt w g v at_) (hk : g ≠ k) (p q r t : Value) : CurAt ((((w.setCell ⟨k, 0, none⟩ p).setCell ⟨k, 1, none⟩ q).setCell ⟨k, 2, none⟩ r).setCell ⟨k, 3, none⟩ t) g v at_ :=
  cur_setn (cur_setn (cur_setn (cur_setn h hk _ _) hk _ _) hk _ _) hk _ _
/-- What follows an entry's key. -/
def tailOf (x : ByteArray) (k0 : Nat) : List UInt8 → Option (E × Nat)
  | [] => none
  | t :: r =>
    if 1 < t.toNat then none else
    if (getB r).2.2 = false then none else
    if t.toNat = 1 then finE ⟨x, ⟨#[]⟩, true, wrap64 ((getB r).1 : Int)⟩ (k0 + 1 + (getB r).2.1) else
    if (textOf (r.drop (getB r).2.1)).2.2 = false then none else
    finE ⟨x, bStr (textOf (r.drop (getB r).2.1)).1, false, wrap64 ((getB r).1 : Int)⟩ (k0 + 1 + (getB r).2.1 + (textOf (r.drop (getB r).2.1)).2.1)
theorem entOf_at {ah : ByteArray} {bs s : List UInt8} {sh n1 n2 : Nat} (hg : getB bs = (sh, n1, true)) (hs : ¬ ah.size < sh) (ht : textOf (bs.drop n1) = (s, n2, true)) :
    entOf ah bs = if sh ≠ comN (strB ah) (strB (keyE ah sh s)) then none else tailOf (keyE ah sh s) (n1 + n2) (bs.drop (n1 + n2)) := by
  unfold entOf
  simp only [hg, ht]
  rw [if_neg (by simp), if_neg hs, if_neg (by simp)]
  split
  · rfl
  · cases bs.drop (n1 + n2) <;> rfl
/-- Where the walk of an entry stands. -/
structure ESt (w : World) (g b off n c : Nat) (bs : List UInt8) (q at_ : Nat) (ec : Array Value) (W : World) : Prop where
  gb : w.grownBy W (some g)
  cur : CurAt W g (.slice (some ⟨b, off, none⟩) n c) at_
  byt : Bytes W (some ⟨b, off, none⟩) n bs
  eb : W.heap[q]? = some (.cells ec 51 (0, 0))
  rb : W.heap[w.heap.size]? = some (.cells #[.string ByteArray.empty, .string ByteArray.empty, .bool false, .int .i64 0] 51 (0, 0))
theorem ESt.below {w W W' : World} {g b off n c q at_ B : Nat} {bs : List UInt8} {ec : Array Value} (h : ESt w g b off n c bs q at_ ec W) (hb : Below B W W') (hB : W.heap.size ≤ B) : ESt w g b off n c bs q at_ ec W' :=
  ⟨gb_below h.gb hb hB, h.cur.below hb hB, bytes_kept h.byt hb hB, by rw [hb.block q (Nat.lt_of_lt_of_le (Array.getElem?_eq_some_iff.1 h.eb).1 hB)]; exact h.eb, by rw [hb.block _ (Nat.lt_of_lt_of_le (Array.getElem?_eq_some_iff.1 h.rb).1 hB)]; exact h.rb⟩
theorem ESt.call {w W W' : World} {g b off n c q at_ a2 : Nat} {bs : List UInt8} {ec : Array Value} (h : ESt w g b off n c bs q at_ ec W) (hg : W.grownBy W' (some g)) (hc : CurAt W' g (.slice (some ⟨b, off, none⟩) n c) a2) (hbl : b < w.heap.size) (hbg : b ≠ g) (hgl : g < w.heap.size) (hq : w.heap.size < q) : ESt w g b off n c bs q a2 ec W' := by
  have hz := h.gb.size
  refine ⟨gb_trans h.gb hg, hc, bytes_far h.byt hg (by omega) hbg, ?_, ?_⟩
  · rw [hg.block q (Array.getElem?_eq_some_iff.1 h.eb).1 (fun e => by cases e; omega)]; exact h.eb
  · rw [hg.block _ (Array.getElem?_eq_some_iff.1 h.rb).1 (fun e => by cases e; omega)]; exact h.rb
theorem ESt.setE {w W : World} {g b off n c q at_ : Nat} {bs : List UInt8} {ec : Array Value} (h : ESt w g b off n c bs q at_ ec W) (hbl : b < w.heap.size) (hgl : g < w.heap.size) (hq : w.heap.size < q) (j : Nat) (v : Value) : ESt w g b off n c bs q at_ (ec.setIfInBounds j v) (W.setCell ⟨q, j, none⟩ v) := by
  refine ⟨gb_setn h.gb (by omega) j v, cur_setn h.cur (by omega) j v, ?_, heap_set W q j ec 51 v h.eb, ?_⟩
  · refine ⟨h.byt.1, fun i c hi => ?_⟩
    obtain ⟨x, hx, hc⟩ := h.byt.2 i c hi
    refine ⟨x, hx, ?_⟩
    rw [← hc]
    refine World.cell?_of_block (Below.heap_setCell W ⟨q, j, none⟩ v _ ?_)
    cases hx
    simp only [Addr.add_lit]
    omega
  · rw [Below.heap_setCell W ⟨q, j, none⟩ v _ (show w.heap.size ≠ q by omega)]; exact h.rb
theorem ESt.cell {w W : World} {g b off n c q at_ : Nat} {bs : List UInt8} {ec : Array Value} (h : ESt w g b off n c bs q at_ ec W) (j : Nat) (v : Value) (hv : ec[j]? = some v) : W.cell? ⟨q, j, none⟩ = some v := by
  simp [World.cell?, h.eb, hv]
theorem ESt.fz {w W : World} {g b off n c q at_ : Nat} {bs : List UInt8} {ec : Array Value} (h : ESt w g b off n c bs q at_ ec W) (j : Nat) : W.frozen? ⟨q, j, none⟩ = false := by
  simp [World.frozen?, h.eb]
theorem beq_yes {a b : Nat} (h : a = b) : ((a : Int) == (b : Int)) = true := by simp; omega
theorem beq_no {a b : Nat} (h : ¬ a = b) : ((a : Int) == (b : Int)) = false := by simp; omega
theorem beqn_no {a b : Nat} (h : ¬ a = b) : (a == b) = false := by simp; omega
theorem lens4 {a n k : Nat} (h : a < n) (hk : k ≤ n - (a + 1)) : a + 1 + k ≤ n := by omega
theorem lens5 {x ah s n a : Nat} (h1 : s ≤ n - a) (h2 : x ≤ ah + s) (hn : n ≤ 1000000) (ha : ah ≤ 1000000) : x ≤ 9223372036854775807 := by omega
theorem lens6 {s n a : Nat} (h1 : s ≤ n - a) (hn : n ≤ 1000000) : s ≤ 9223372036854775807 := by omega
theorem lens3 {sh asz sl n1 n2 a n : Nat} (h1 : sl ≤ n - (a + n1)) (h2 : n2 ≤ n - (a + n1)) (hn : n ≤ 1000000) (ha : asz ≤ 1000000) (hn1 : a + n1 ≤ n) : ¬ (9223372036854775807 < min sh asz + sl) ∧ a + n1 + n2 ≤ n := by omega
theorem textOf_len2 {bs s : List UInt8} {n : Nat} (h : textOf bs = (s, n, true)) : s.length ≤ bs.length ∧ n ≤ bs.length := by
  obtain ⟨_, h2, h3, _⟩ := textOf_once bs s n h
  have := congrArg List.length h3
  rw [List.length_take, textB, List.length_append] at this
  omega
set_option maxRecDepth 100000 in
set_option maxHeartbeats 4000000 in
theorem entryc_any (g b off n c at_ : Nat) (ah : ByteArray) (bs : List UInt8) (w : World) (hg : CurAt w g (.slice (some ⟨b, off, none⟩) n c) at_) (hb : Bytes w (some ⟨b, off, none⟩) n bs) (hbl : b < w.heap.size) (hbg : b ≠ g) (hat : at_ ≤ n) (hnc : n < c) (hc : c ≤ 9223372036854775807) (hn : n ≤ 1000000) (ha : ah.size ≤ 1000000) :
    Calls Tryd.prog 104 #[.pointer (some ⟨g, 0, none⟩), .string ah] w fun e w' => w.grownBy w' (some g) ∧ EntSays g (.slice (some ⟨b, off, none⟩) n c) at_ (entOf ah (bs.drop at_)) e w' := by
  have hgl := hg.lt
  obtain ⟨o, HO⟩ : ∃ o, Hid (entOf ah (bs.drop at_) = o) := ⟨_, rfl⟩
  rw [HO.out]
  have HL : Hid (bs.length = n) := hb.1
  obtain ⟨⟨sh, n1, ok⟩, HG⟩ : ∃ x, Hid (getB (bs.drop at_) = x) := ⟨_, rfl⟩
  have CN := fun o => number_any g b off n c at_ bs (w.alloc o) (hg.below (bel_alloc w o) (Nat.le_refl _)) (bytes_kept hb (bel_alloc w o) (Nat.le_refl _)) hat hnc hc
  rw [HG.out] at CN
  have HCN : Hid _ := CN
  have HB : Hid _ := hb
  clear CN hg hb
  cases ok with
  | false =>
    have ho : o = none := by rw [← HO.out]; unfold entOf; rw [HG.out]; rfl
    subst ho
    go_enter Tryd.func104, Tryd.ntmps104
    go_wp2_with fail
    refine (HCN.out _).mono ?_
    rintro e w2 ⟨hg2, he⟩
    obtain rfl : e = .panicked nb := he
    exact ⟨rfl, gb_trans (gb_alloc (gb_refl _ _) _) hg2, rfl⟩
  | true =>
  have hn1 : at_ + n1 ≤ n := by
    have := (getB_once _ _ _ HG.out).2.2.1
    rw [List.length_drop, HL.out] at this
    omega
  have hsh := (getB_once _ _ _ HG.out).1
  by_cases hs : ah.size < sh
  · have ho : o = none := by rw [← HO.out]; unfold entOf; rw [HG.out]; simp only; rw [if_neg (by simp), if_pos hs]
    subst ho
    have hwr : IntKind.u64.wrap (ah.size : Int) = ah.size := by rw [IntKind.wrap_u64]; omega
    have hle : ¬ (sh : Int) ≤ (ah.size : Int) := by omega
    have hled : decide (sh ≤ ah.size) = false := by simp; omega
    go_enter Tryd.func104, Tryd.ntmps104
    go_wp2_with fail
    refine (HCN.out _).mono ?_
    rintro e w2 ⟨hg2, he, hc2⟩
    subst he
    go_wp2_with fail
    refine (must_no _).mono ?_
    rintro e w2 ⟨rfl, rfl⟩
    exact ⟨rfl, gb_trans (gb_alloc (gb_refl _ _) _) hg2, rfl⟩
  have hwr : IntKind.u64.wrap (ah.size : Int) = ah.size := by rw [IntKind.wrap_u64]; omega
  have hle : (sh : Int) ≤ (ah.size : Int) := by omega
  have hsi : wrap64 (sh : Int) = sh := by unfold wrap64; omega
  obtain ⟨⟨s, n2, ok1⟩, HT⟩ : ∃ x, Hid (textOf (bs.drop (at_ + n1)) = x) := ⟨_, rfl⟩
  have HT' : Hid (textOf ((bs.drop at_).drop n1) = (s, n2, ok1)) := by show _ = _; rw [List.drop_drop]; exact HT.out
  go_enter Tryd.func104, Tryd.ntmps104
  go_wp2_with fail
  refine (HCN.out _).mono ?_
  rintro e w2 ⟨hg2, he, hc2⟩
  subst he
  have hz2 := hg2.size
  simp only [World.size_alloc] at hz2
  have hb2 : Bytes w2 (some ⟨b, off, none⟩) n bs := bytes_far (bytes_kept HB.out (bel_alloc w _) (Nat.le_refl _)) hg2 (by simp only [World.size_alloc]; omega) hbg
  have CT : ∀ W, Below w2.heap.size w2 W → _ := fun W hW => textc_any g b off n c (at_ + n1) bs W (hc2.below hW (Nat.le_refl _)) (bytes_kept hb2 hW (Nat.le_refl _)) hn1 hnc hc
  rw [HT.out] at CT
  have H2 : Hid (w.grownBy w2 (some g) ∧ Bytes w2 (some ⟨b, off, none⟩) n bs) := ⟨gb_trans (gb_alloc (gb_refl _ _) _) hg2, hb2⟩
  have HCT : Hid _ := CT
  have HR2 : Hid (w2.heap[w.heap.size]? = some (.cells #[.string ByteArray.empty, .string ByteArray.empty, .bool false, .int .i64 0] 51 (0, 0))) := by
    show _ = _
    rw [hg2.block w.heap.size (by simp) (fun e => absurd (Option.some.inj e) (Nat.ne_of_gt hgl))]
    exact heap_alloc_new w _
  clear CT hg2 hb2 hc2 HCN
  go_wp2_with fail
  refine (must_yes _).mono ?_
  rintro e w2 ⟨rfl, rfl⟩
  go_wp2_with fail
  cases ok1 with
  | false =>
    have ho : o = none := by
      rw [← HO.out]; unfold entOf; rw [HG.out]; simp only; rw [if_neg (by simp), if_neg hs, HT'.out]; rfl
    subst ho
    refine wp_region_held_drew (S := fun _ => True) (by kernel_rfl) trivial (fun hS => ?_)
    refine wpAnyH_take (i := 0) (v := ?_) rfl (by kernel_rfl) (by kernel_rfl) (by kernel_rfl) (fun _ _ _ h => h) (Or.inl ⟨by rfl, ?_⟩) (by assumption) ?_
    rotate_left
    · (intro w hSw; (try dsimp only at hSw); go_simp; try with_reducible rfl)
    simp only [Act.put, List.getElem_toArray, List.getElem_cons_zero, List.setIfInBounds_toArray, List.set_cons_zero, List.set_cons_succ]
    refine wpAnyH_take (i := 1) (v := ?_) rfl (by kernel_rfl) (by kernel_rfl) (by kernel_rfl) (fun _ _ _ h => h) (Or.inl ⟨by rfl, ?_⟩) (by assumption) ?_
    rotate_left
    · (intro w hSw; (try dsimp only at hSw); go_simp; try with_reducible rfl)
    simp only [Act.put, List.getElem_toArray, List.getElem_cons_zero, List.getElem_cons_succ, List.setIfInBounds_toArray, List.set_cons_zero, List.set_cons_succ]
    refine wpAnyH_take (i := 2) (v := ?_) rfl (by kernel_rfl) (by kernel_rfl) (by kernel_rfl) (fun _ _ _ h => h) (Or.inl ⟨by rfl, ?_⟩) (by assumption) ?_
    rotate_left
    · (intro w hSw; (try dsimp only at hSw); go_simp; try with_reducible rfl)
    simp only [Act.put, List.getElem_toArray, List.getElem_cons_zero, List.getElem_cons_succ, List.setIfInBounds_toArray, List.set_cons_zero, List.set_cons_succ]
    refine wpAnyH_take (i := 3) (v := ?_) rfl (by kernel_rfl) (by kernel_rfl) (by kernel_rfl) (fun _ _ _ h => h) (Or.inl ⟨by rfl, ?_⟩) (by assumption) ?_
    rotate_left
    · (intro w hSw; (try dsimp only at hSw); go_simp; try with_reducible rfl)
    simp only [Act.put, List.getElem_toArray, List.getElem_cons_zero, List.getElem_cons_succ, List.setIfInBounds_toArray, List.set_cons_zero, List.set_cons_succ]
    refine wpAnyH_ready (rs := [4, 7]) (by kernel_rfl) (by simp) ?_
    refine AllReadyH.cons rfl (fun K hK => ?_) ?_
    · go_simp
      refine (HCT.out _ (Below.drew (Below.refl _ _))).mono ?_
      rintro e w3 ⟨hg3, -, he⟩
      obtain rfl : e = .panicked nb := he
      exact ⟨rfl, gb_trans H2.out.1 (gb_trans (gb_below (gb_refl _ _) (Below.drew (Below.refl w2.heap.size w2)) (Nat.le_refl _)) hg3), rfl⟩
    refine AllReadyH.cons rfl (fun K hK => ?_) ?_
    rotate_left
    · exact AllReadyH.nil
    go_simp
    refine hK.out _ _ trivial (fun hHeld2 => ?_)
    clear hK K
    refine wpAnyH_ready (rs := [4]) (by kernel_rfl) (by simp) ?_
    refine AllReadyH.cons rfl (fun K hK => ?_) ?_
    rotate_left
    · exact AllReadyH.nil
    go_simp
    refine (HCT.out _ ((bel_alloc w2 _).drew)).mono ?_
    rintro e w3 ⟨hg3, -, he⟩
    obtain rfl : e = .panicked nb := he
    exact ⟨rfl, gb_trans H2.out.1 (gb_trans (gb_below (gb_refl _ _) ((bel_alloc w2 _).drew) (Nat.le_refl _)) hg3), rfl⟩
  | true =>
  have hsl : ¬ (9223372036854775807 < min sh ah.size + s.length) ∧ at_ + n1 + n2 ≤ n := by
    obtain ⟨h1, h2⟩ := textOf_len2 HT.out
    rw [List.length_drop, HL.out] at h1 h2
    exact lens3 h1 h2 hn ha hn1
  obtain ⟨hsl, hn2⟩ := hsl
  go_cut [6] (fun s6 wx => s6 = .pointer (some ⟨w2.heap.size, 0, none⟩) ∧ Hid (w2.grownBy wx (some g)) ∧ Hid (CurAt wx g (.slice (some ⟨b, off, none⟩) n c) (at_ + n1 + n2)) ∧ Hid (wx.heap[w2.heap.size]? = some (.cells #[.string (keyE ah sh s), .string ByteArray.empty, .bool false, .int .i64 0] 51 (0, 0))))
  case first =>
    refine wp_region_held_drew (S := fun _ => True) (by kernel_rfl) trivial (fun hS => ?_)
    refine wpAnyH_take (i := 0) (v := ?_) rfl (by kernel_rfl) (by kernel_rfl) (by kernel_rfl) (fun _ _ _ h => h) (Or.inl ⟨by rfl, ?_⟩) (by assumption) ?_
    rotate_left
    · (intro w hSw; (try dsimp only at hSw); go_simp; try with_reducible rfl)
    simp only [Act.put, List.getElem_toArray, List.getElem_cons_zero, List.setIfInBounds_toArray, List.set_cons_zero, List.set_cons_succ]
    refine wpAnyH_take (i := 1) (v := ?_) rfl (by kernel_rfl) (by kernel_rfl) (by kernel_rfl) (fun _ _ _ h => h) (Or.inl ⟨by rfl, ?_⟩) (by assumption) ?_
    rotate_left
    · (intro w hSw; (try dsimp only at hSw); go_simp; try with_reducible rfl)
    simp only [Act.put, List.getElem_toArray, List.getElem_cons_zero, List.getElem_cons_succ, List.setIfInBounds_toArray, List.set_cons_zero, List.set_cons_succ]
    refine wpAnyH_take (i := 2) (v := ?_) rfl (by kernel_rfl) (by kernel_rfl) (by kernel_rfl) (fun _ _ _ h => h) (Or.inl ⟨by rfl, ?_⟩) (by assumption) ?_
    rotate_left
    · (intro w hSw; (try dsimp only at hSw); go_simp; try with_reducible rfl)
    simp only [Act.put, List.getElem_toArray, List.getElem_cons_zero, List.getElem_cons_succ, List.setIfInBounds_toArray, List.set_cons_zero, List.set_cons_succ]
    refine wpAnyH_take (i := 3) (v := ?_) rfl (by kernel_rfl) (by kernel_rfl) (by kernel_rfl) (fun _ _ _ h => h) (Or.inl ⟨by rfl, ?_⟩) (by assumption) ?_
    rotate_left
    · (intro w hSw; (try dsimp only at hSw); go_simp; try with_reducible rfl)
    simp only [Act.put, List.getElem_toArray, List.getElem_cons_zero, List.getElem_cons_succ, List.setIfInBounds_toArray, List.set_cons_zero, List.set_cons_succ]
    refine wpAnyH_ready (rs := [4, 7]) (by kernel_rfl) (by simp) ?_
    refine AllReadyH.cons rfl (fun K hK => ?_) ?_
    · go_simp
      refine (HCT.out _ (Below.drew (Below.refl _ _))).mono ?_
      rintro e w3 ⟨hg3, hz3, he, hc3⟩
      subst he
      have H3 : Hid _ := And.intro hg3 hc3
      clear hg3 hc3
      go_wp2_with fail
      refine hK.out _ _ trivial (fun hHeld2 => ?_)
      clear hK K
      refine wpAnyH_take (i := 5) (v := ?_) rfl (by kernel_rfl) (by kernel_rfl) (by kernel_rfl) (fun _ _ _ h => h) (Or.inl ⟨by rfl, ?_⟩) (by assumption) ?_
      rotate_left
      · (intro w hSw; (try dsimp only at hSw); go_simp; try with_reducible rfl)
      simp only [Act.put, List.getElem_toArray, List.getElem_cons_zero, List.getElem_cons_succ, List.setIfInBounds_toArray, List.set_cons_zero, List.set_cons_succ]
      refine wpAnyH_take (i := 6) (v := ?_) rfl (by kernel_rfl) (by kernel_rfl) (by kernel_rfl) (fun _ _ _ h => h) (Or.inl ⟨by rfl, ?_⟩) (by assumption) ?_
      rotate_left
      · (intro w hSw; (try dsimp only at hSw); go_simp; try with_reducible rfl)
      simp only [Act.put, List.getElem_toArray, List.getElem_cons_zero, List.getElem_cons_succ, List.setIfInBounds_toArray, List.set_cons_zero, List.set_cons_succ]
      refine wpAnyH_ready (rs := [7]) (by kernel_rfl) (by simp) ?_
      refine AllReadyH.cons rfl (fun K hK => ?_) ?_
      rotate_left
      · exact AllReadyH.nil
      go_simp
      refine hK.out _ _ trivial (fun hHeld2 => ?_)
      clear hK K
      refine wpAnyH_ready (rs := [8]) (by kernel_rfl) (by simp) ?_
      refine AllReadyH.cons rfl (fun K hK => ?_) ?_
      rotate_left
      · exact AllReadyH.nil
      go_simp
      refine hK.out _ _ trivial (fun hHeld2 => ?_)
      clear hK K
      refine wpAnyH_done (by kernel_rfl) ?_ _
      go_wp2_with fail
      go_meet
      case rel =>
        have hz : w3.heap.size = w2.heap.size := hz3
        rw [extract_key]
        refine ⟨rfl, gb_alloc (gb_trans (gb_below (gb_refl _ _) (Below.drew (Below.refl w2.heap.size w2)) (Nat.le_refl _)) H3.out.1) _, H3.out.2.below (bel_alloc w3 _) (Nat.le_refl _), ?_⟩
        show _ = _
        rw [← hz]
        exact heap_alloc_new w3 _
    refine AllReadyH.cons rfl (fun K hK => ?_) ?_
    rotate_left
    · exact AllReadyH.nil
    go_simp
    refine hK.out _ _ trivial (fun hHeld2 => ?_)
    clear hK K
    refine wpAnyH_ready (rs := [4]) (by kernel_rfl) (by simp) ?_
    refine AllReadyH.cons rfl (fun K hK => ?_) ?_
    rotate_left
    · exact AllReadyH.nil
    go_simp
    refine (HCT.out _ ((bel_alloc w2 _).drew)).mono ?_
    rintro e w3 ⟨hg3, hz3, he, hc3⟩
    subst he
    have hblk3 : w3.heap[w2.heap.size]? = some (.cells #[.string ByteArray.empty, .string ByteArray.empty, .bool false, .int .i64 0] 51 (0, 0)) := by
      rw [hg3.block w2.heap.size (by simp) (fun h => by cases h; omega)]
      exact heap_alloc_new w2 _
    have d0 : w3.cell? ⟨w2.heap.size, 0, none⟩ = some (.string ByteArray.empty) := by simp [World.cell?, hblk3]
    have d1 : w3.cell? ⟨w2.heap.size, 1, none⟩ = some (.string ByteArray.empty) := by simp [World.cell?, hblk3]
    have d2 : w3.cell? ⟨w2.heap.size, 2, none⟩ = some (.bool false) := by simp [World.cell?, hblk3]
    have d3 : w3.cell? ⟨w2.heap.size, 3, none⟩ = some (.int .i64 0) := by simp [World.cell?, hblk3]
    have z0 : w3.frozen? ⟨w2.heap.size, 0, none⟩ = false := by simp [World.frozen?, hblk3]
    have z1 : w3.frozen? ⟨w2.heap.size, 1, none⟩ = false := by simp [World.frozen?, hblk3]
    have z2 : w3.frozen? ⟨w2.heap.size, 2, none⟩ = false := by simp [World.frozen?, hblk3]
    have z3 : w3.frozen? ⟨w2.heap.size, 3, none⟩ = false := by simp [World.frozen?, hblk3]
    have HBK : Hid _ := hblk3
    clear hblk3
    have H3 : Hid _ := And.intro hg3 hc3
    clear hg3 hc3
    go_wp2_with fail
    refine hK.out _ _ trivial (fun hHeld2 => ?_)
    clear hK K
    refine wpAnyH_take (i := 5) (v := ?_) rfl (by kernel_rfl) (by kernel_rfl) (by kernel_rfl) (fun _ _ _ h => h) (Or.inl ⟨by rfl, ?_⟩) (by assumption) ?_
    rotate_left
    · (intro w hSw; (try dsimp only at hSw); go_simp; try with_reducible rfl)
    simp only [Act.put, List.getElem_toArray, List.getElem_cons_zero, List.getElem_cons_succ, List.setIfInBounds_toArray, List.set_cons_zero, List.set_cons_succ]
    refine wpAnyH_take (i := 6) (v := ?_) rfl (by kernel_rfl) (by kernel_rfl) (by kernel_rfl) (fun _ _ _ h => h) (Or.inl ⟨by rfl, ?_⟩) (by assumption) ?_
    rotate_left
    · (intro w hSw; (try dsimp only at hSw); go_simp; try with_reducible rfl)
    simp only [Act.put, List.getElem_toArray, List.getElem_cons_zero, List.getElem_cons_succ, List.setIfInBounds_toArray, List.set_cons_zero, List.set_cons_succ]
    refine wpAnyH_ready (rs := [8]) (by kernel_rfl) (by simp) ?_
    refine AllReadyH.cons rfl (fun K hK => ?_) ?_
    rotate_left
    · exact AllReadyH.nil
    go_simp
    refine hK.out _ _ trivial (fun hHeld2 => ?_)
    clear hK K
    refine wpAnyH_done (by kernel_rfl) ?_ _
    go_wp2_with fail
    go_meet
    case rel =>
      rw [extract_key]
      have hgn : g ≠ w2.heap.size := by omega
      refine ⟨rfl, ?_, ?_, ?_⟩
      · exact gb_stores (gb_trans (gb_below (gb_refl _ _) ((bel_alloc w2 _).drew) (Nat.le_refl _)) H3.out.1) (Nat.le_refl _) _ _ _ _
      · exact cur_stores H3.out.2 hgn _ _ _ _
      · exact heap_four _ _ _ _ _ _ _ _ _ _ 51 HBK.out
  case rest =>
    obtain ⟨rfl, HG3, HC3, HK3⟩ := hcut
    have HS : Hid _ := hs
    clear hsl hle hwr hs
    have e0 : wc.cell? ⟨w2.heap.size, 0, none⟩ = some (.string (keyE ah sh s)) := by simp [World.cell?, HK3.out]
    obtain ⟨x, HX⟩ : ∃ x, Hid (keyE ah sh s = x) := ⟨_, rfl⟩
    rw [HX.out] at e0 HK3
    have HCC : Hid (∀ w, Calls Tryd.prog 80 #[.string ah, .string x] w fun e w' => e = .returned (.int .i64 (comN (strB ah) (strB x) : Nat)) ∧ Below w.heap.size w w') := fun w => common_any ah x w (by omega)
    obtain ⟨cm, HCM⟩ : ∃ cm, Hid (comN (strB ah) (strB x) = cm) := ⟨_, rfl⟩
    rw [HCM.out] at HCC
    by_cases hcm : sh = cm
    · have hcmz := beq_yes hcm
      have HCMH : Hid (sh = cm) := hcm
      clear hcm
      go_wp2_with fail
      refine (HCC.out _).mono ?_
      rintro e w4 ⟨rfl, hb4⟩
      have HB4 : Hid _ := hb4
      clear hb4
      have HS4 : Hid (ESt w g b off n c bs w2.heap.size (at_ + n1 + n2) #[.string x, .string ByteArray.empty, .bool false, .int .i64 0] w4) := by
        refine ESt.below (W := wc) ⟨gb_trans H2.out.1 HG3.out, HC3.out, bytes_far H2.out.2 HG3.out (Nat.lt_of_lt_of_le hbl H2.out.1.size) hbg, HK3.out, ?_⟩ HB4.out (Nat.le_refl _)
        rw [HG3.out.block w.heap.size (Nat.lt_of_succ_le hz2) (fun e => absurd (Option.some.inj e) (Nat.ne_of_gt hgl))]
        exact HR2.out
      have HQ : Hid (w.heap.size < w2.heap.size) := Nat.lt_of_succ_le hz2
      have HEQ : Hid (o = tailOf x (n1 + n2) (bs.drop (at_ + n1 + n2))) := by
        show _ = _
        rw [← HO.out, entOf_at HG.out HS.out HT'.out, HX.out, HCM.out, if_neg (fun h => h HCMH.out), List.drop_drop, Nat.add_assoc]
      obtain ⟨a2, HA2⟩ : ∃ a, Hid (at_ + n1 + n2 = a) := ⟨_, rfl⟩
      rw [HA2.out] at HS4 hn2 HEQ
      obtain ⟨q, HQE⟩ : ∃ q, Hid (w2.heap.size = q) := ⟨_, rfl⟩
      rw [HQE.out] at HS4 HQ ⊢
      clear HG3 HC3 HK3 HB4 HCC hz2 HCT H2
      go_wp2_with fail
      refine (must_yes _).mono ?_
      rintro e w5 ⟨rfl, rfl⟩
      clear hcmz hsi
      by_cases hl2 : a2 < n
      · obtain ⟨t, r, HTR⟩ : ∃ t r, Hid (bs.drop a2 = t :: r) := by
          cases hh : bs.drop a2 with
          | nil => exact absurd (congrArg List.length hh) (by rw [List.length_drop, HL.out]; exact Nat.ne_of_gt (Nat.sub_pos_of_lt hl2))
          | cons t r => exact ⟨t, r, rfl⟩
        rw [HTR.out] at HEQ
        have HDR : Hid (bs.drop (a2 + 1) = r) := by show _ = _; rw [← List.drop_drop, HTR.out]; rfl
        have HCE : Hid (w5.cell? ⟨b, off + a2, none⟩ = some (.int .u8 t.toNat)) := by
          have h1 : bs[a2]? = some t := by
            have := congrArg List.head? HTR.out
            rw [List.head?_drop] at this
            exact this
          obtain ⟨x, hx, hc⟩ := HS4.out.byt.2 a2 t h1
          cases hx
          rw [Addr.add_lit] at hc
          exact hc
        have HCD := del_at g b off n c a2 t w5 HS4.out.cur HCE.out hl2 (by omega)
        by_cases ht : 1 < t.toNat
        · have HON : Hid (o = none) := by show _ = _; rw [HEQ.out, tailOf, if_pos ht]
          simp only [if_pos ht] at HCD
          have HCDH : Hid _ := HCD
          clear HCD
          go_wp2_with fail
          refine Calls.mono HCDH.out ?_
          rintro e w6 ⟨hg6, rfl⟩
          exact ⟨rfl, gb_trans HS4.out.gb hg6, by rw [HON.out]; rfl⟩
        · simp only [if_neg ht] at HCD
          obtain ⟨d, HD⟩ : ∃ d, Hid (decide (t.toNat = 1) = d) := ⟨_, rfl⟩
          rw [HD.out] at HCD
          have HCDH : Hid _ := HCD
          have HTT : Hid _ := ht
          clear HCD ht
          go_wp2_with fail
          refine Calls.mono HCDH.out ?_
          rintro e w6 ⟨hg6, rfl, hc6⟩
          have HS6 : Hid (ESt w g b off n c bs q (a2 + 1) #[.string x, .string ByteArray.empty, .bool false, .int .i64 0] w6) := HS4.out.call hg6 hc6 hbl hbg hgl HQ.out
          have k2 := HS6.out.cell 2 _ rfl
          have z2 := HS6.out.fz 2
          have HS7 : Hid (ESt w g b off n c bs q (a2 + 1) #[.string x, .string ByteArray.empty, .bool d, .int .i64 0] (w6.setCell ⟨q, 2, none⟩ (.bool d))) := HS6.out.setE hbl hgl HQ.out 2 (.bool d)
          clear hg6 hc6 HCDH
          have CN := number_any g b off n c (a2 + 1) bs _ HS7.out.cur HS7.out.byt (by omega) hnc hc
          rw [HDR.out] at CN
          obtain ⟨⟨qv, n3, ok3⟩, HG3⟩ : ∃ x, Hid (getB r = x) := ⟨_, rfl⟩
          rw [HG3.out] at CN
          have HCN : Hid _ := CN
          clear CN
          go_wp2_with fail
          refine Calls.mono HCN.out ?_
          cases ok3 with
          | false =>
            have HON : Hid (o = none) := by show _ = _; rw [HEQ.out, tailOf, if_neg HTT.out, HG3.out]; rfl
            rintro e w8 ⟨hg8, he⟩
            obtain rfl : e = .panicked nb := he
            exact ⟨rfl, gb_trans HS7.out.gb hg8, by rw [HON.out]; rfl⟩
          | true =>
            rintro e w8 ⟨hg8, rfl, hc8⟩
            have hn3 := (getB_once _ _ _ HG3.out).2.2.1
            have hrl : r.length = n - (a2 + 1) := by rw [← HDR.out, List.length_drop, HL.out]
            rw [hrl] at hn3
            have HN3 : Hid (a2 + 1 + n3 ≤ n) := lens4 hl2 hn3
            have HDR3 : Hid (bs.drop (a2 + 1 + n3) = r.drop n3) := by show _ = _; rw [← List.drop_drop, HDR.out]
            have HS8 : Hid (ESt w g b off n c bs q (a2 + 1 + n3) #[.string x, .string ByteArray.empty, .bool d, .int .i64 0] w8) := HS7.out.call hg8 hc8 hbl hbg hgl HQ.out
            have k3 := HS8.out.cell 3 _ rfl
            have z3 := HS8.out.fz 3
            have HS9 : Hid (ESt w g b off n c bs q (a2 + 1 + n3) #[.string x, .string ByteArray.empty, .bool d, .int .i64 (wrap64 (qv : Int))] (w8.setCell ⟨q, 3, none⟩ (.int .i64 (wrap64 (qv : Int))))) := HS8.out.setE hbl hgl HQ.out 3 _
            have k2' := HS9.out.cell 2 _ rfl
            have HXS : Hid (x.size ≤ 9223372036854775807) := by
              show _ ≤ _
              have h1 := (textOf_len2 HT.out).1
              rw [List.length_drop, HL.out] at h1
              have h2 : x.size ≤ ah.size + s.length := by rw [← HX.out, ← strB_length, strB_keyE, List.length_append, List.length_take, strB_length]; exact Nat.add_le_add_right (Nat.min_le_right _ _) _
              exact lens5 h1 h2 hn ha
            clear hg8 hc8 hn3 hrl k2 z2
            go_upto_if 39 with fail
            go_cut [] (fun wx => ∃ (val : ByteArray) (k : Nat), Hid (ESt w g b off n c bs q (at_ + k) #[.string x, .string val, .bool d, .int .i64 (wrap64 (qv : Int))] wx) ∧ Hid (o = finE ⟨x, val, d, wrap64 (qv : Int)⟩ k) ∧ Hid (val.size ≤ 9223372036854775807))
            case first =>
              cases d with
              | true =>
                have ht1 : t.toNat = 1 := of_decide_eq_true HD.out
                have HON : Hid (o = finE ⟨x, ⟨#[]⟩, true, wrap64 (qv : Int)⟩ (n1 + n2 + 1 + n3)) := by show _ = _; rw [HEQ.out, tailOf, if_neg HTT.out, HG3.out]; simp only; rw [if_neg (by simp), if_pos ht1]
                clear ht1
                go_wp2
                go_meet
                case rel =>
                  refine ⟨⟨#[]⟩, n1 + n2 + 1 + n3, ?_, HON, Nat.zero_le _⟩
                  show ESt _ _ _ _ _ _ _ _ _ _ _
                  rw [show at_ + (n1 + n2 + 1 + n3) = a2 + 1 + n3 by rw [← HA2.out]; simp only [Nat.add_assoc]]
                  exact HS9.out
              | false =>
                have ht1 : ¬ t.toNat = 1 := of_decide_eq_false HD.out
                have CT := textc_any g b off n c (a2 + 1 + n3) bs _ HS9.out.cur HS9.out.byt HN3.out hnc hc
                rw [HDR3.out] at CT
                obtain ⟨⟨vv, n4, ok4⟩, HT4⟩ : ∃ x, Hid (textOf (r.drop n3) = x) := ⟨_, rfl⟩
                rw [HT4.out] at CT
                have HCT : Hid _ := CT
                clear CT
                cases ok4 with
                | false =>
                  have HON : Hid (o = none) := by show _ = _; rw [HEQ.out, tailOf, if_neg HTT.out, HG3.out]; simp only; rw [if_neg (by simp), if_neg ht1, HT4.out]; rfl
                  clear ht1
                  go_wp2_with fail
                  refine Calls.mono HCT.out ?_
                  rintro e w10 ⟨hg10, -, he⟩
                  obtain rfl : e = .panicked nb := he
                  exact ⟨rfl, gb_trans HS9.out.gb hg10, by rw [HON.out]; rfl⟩
                | true =>
                  have HON : Hid (o = finE ⟨x, bStr vv, false, wrap64 (qv : Int)⟩ (n1 + n2 + 1 + n3 + n4)) := by show _ = _; rw [HEQ.out, tailOf, if_neg HTT.out, HG3.out]; simp only; rw [if_neg (by simp), if_neg ht1, HT4.out]; simp only; rw [if_neg (by simp)]
                  clear ht1
                  go_wp2_with fail
                  refine Calls.mono HCT.out ?_
                  rintro e w10 ⟨hg10, -, rfl, hc10⟩
                  have HS10 : Hid (ESt w g b off n c bs q (a2 + 1 + n3 + n4) #[.string x, .string ByteArray.empty, .bool false, .int .i64 (wrap64 (qv : Int))] w10) := HS9.out.call hg10 hc10 hbl hbg hgl HQ.out
                  have k1 := HS10.out.cell 1 _ rfl
                  have z1 := HS10.out.fz 1
                  have HVS : Hid ((bStr vv).size ≤ 9223372036854775807) := by
                    show _ ≤ _
                    rw [size_bStr]
                    have h1 := (textOf_len2 HT4.out).1
                    rw [← HDR3.out, List.length_drop, HL.out] at h1
                    exact lens6 h1 hn
                  clear hg10 hc10 HCT
                  go_wp2
                  go_meet
                  case rel =>
                    refine ⟨bStr vv, n1 + n2 + 1 + n3 + n4, ?_, HON, HVS⟩
                    show ESt _ _ _ _ _ _ _ _ _ _ _
                    rw [show at_ + (n1 + n2 + 1 + n3 + n4) = a2 + 1 + n3 + n4 by rw [← HA2.out]; simp only [Nat.add_assoc]]
                    exact HS10.out.setE hbl hgl HQ.out 1 _
            case rest =>
              obtain ⟨val, k, HSC, HOC, HVC⟩ := hcut
              clear HS9 HS8 HS7 HS6 HS4 k2' k3 z3 HCN
              have k0 := HSC.out.cell 0 _ rfl
              have k1 := HSC.out.cell 1 _ rfl
              have k2 := HSC.out.cell 2 _ rfl
              have k3 := HSC.out.cell 3 _ rfl
              obtain ⟨qw, HQW⟩ : ∃ z, Hid (wrap64 (qv : Int) = z) := ⟨_, rfl⟩
              rw [HQW.out] at k3 HSC HOC
              have CR := right_any x val d qw wc HXS.out HVC.out
              obtain ⟨rr, HRR⟩ : ∃ z, Hid (rightB ⟨x, val, d, qw⟩ = z) := ⟨_, rfl⟩
              rw [HRR.out] at CR
              have HCR : Hid _ := CR
              clear CR
              go_wp2_with fail
              refine Calls.mono HCR.out ?_
              rintro e w11 ⟨rfl, hb11⟩
              have HSD : Hid (ESt w g b off n c bs q (at_ + k) #[.string x, .string val, .bool d, .int .i64 qw] w11) := HSC.out.below hb11 (Nat.le_refl _)
              clear hb11 HCR HSC k0 k1 k2 k3
              cases rr with
              | false =>
                have HON : Hid (o = none) := by show _ = _; rw [HOC.out, finE, HRR.out]; rfl
                go_wp2_with fail
                refine (must_no _).mono ?_
                rintro e w12 ⟨rfl, rfl⟩
                exact ⟨rfl, HSD.out.gb, by rw [HON.out]; rfl⟩
              | true =>
                have HON : Hid (o = some (⟨x, val, d, qw⟩, k)) := by show _ = _; rw [HOC.out, finE, HRR.out]; rfl
                go_wp2_with fail
                refine (must_yes _).mono ?_
                rintro e w12 ⟨rfl, rfl⟩
                have k0 := HSD.out.cell 0 _ rfl
                have k1 := HSD.out.cell 1 _ rfl
                have k2 := HSD.out.cell 2 _ rfl
                have k3 := HSD.out.cell 3 _ rfl
                have r0 : w12.cell? ⟨w.heap.size, 0, none⟩ = some (.string ByteArray.empty) := by simp [World.cell?, HSD.out.rb]
                have r1 : w12.cell? ⟨w.heap.size, 1, none⟩ = some (.string ByteArray.empty) := by simp [World.cell?, HSD.out.rb]
                have r2 : w12.cell? ⟨w.heap.size, 2, none⟩ = some (.bool false) := by simp [World.cell?, HSD.out.rb]
                have r3 : w12.cell? ⟨w.heap.size, 3, none⟩ = some (.int .i64 0) := by simp [World.cell?, HSD.out.rb]
                have y0 : ∀ j, w12.frozen? ⟨w.heap.size, j, none⟩ = false := fun j => by simp [World.frozen?, HSD.out.rb]
                go_wp2
                (try simp only [Exit.inBlock, Exit.then])
                refine bodyPost_ret (results_entry1 rfl _ _ w.heap.size 51 _ _ rfl (heap_four _ _ _ _ _ _ _ _ _ _ _ HSD.out.rb) (by exact size23)) rfl ?_
                refine ⟨gb_stores HSD.out.gb (Nat.le_refl _) _ _ _ _, ?_⟩
                rw [HON.out]
                exact ⟨rfl, cur_stores HSD.out.cur (Nat.ne_of_lt hgl) _ _ _ _⟩
      · have HON : Hid (o = none) := by
          show _ = _
          rw [HEQ.out, List.drop_eq_nil_of_le (by rw [HL.out]; exact Nat.le_of_not_lt hl2)]; rfl
        have HCD : Hid _ := del_end g b off n c a2 w5 HS4.out.cur hl2
        go_wp2_with fail
        refine Calls.mono HCD.out ?_
        rintro e w6 ⟨hg6, rfl⟩
        exact ⟨rfl, gb_trans HS4.out.gb hg6, by rw [HON.out]; rfl⟩
    · have hcmz := beq_no hcm
      have hcmn := beqn_no hcm
      have HON : Hid (o = none) := by
        show _ = _
        rw [← HO.out, entOf_at HG.out HS.out HT'.out, HX.out, HCM.out, if_pos hcm]
      go_wp2_with fail
      refine (HCC.out _).mono ?_
      rintro e w4 ⟨rfl, hb4⟩
      have HB4 : Hid _ := hb4
      clear hb4
      go_wp2_with fail
      refine (must_no _).mono ?_
      rintro e w5 ⟨rfl, rfl⟩
      exact ⟨rfl, gb_below (gb_trans H2.out.1 HG3.out) HB4.out (Nat.le_refl _), by rw [HON.out]; rfl⟩
end Go.Proofs.YtcgjhopfdpaocaaDoor
namespace Go.Proofs.YtcgjhopfdpaocaaDoor
open Go.RowKit Go.Sort Go.Shelf
set_option linter.unusedSectionVars false
variable [Inhabited E] [DecidableEq E]
set_option maxRecDepth 100000 in
theorem run_append_splitG (w : World) (base : Nat) (t ty e : TypeId) (i : TypeInfo) (z : Value) (size bytes : Nat) (ht : Tryd.prog.underlying t = some (.slice e)) (hi : Tryd.prog.info? e = some i) (hz0 : i.zero = some z)
    (hz1 : i.size = size) (hz2 : i.bytes = bytes) (hzs : z.cells.size = size) (hsz : 0 < size) (v : Value) (n : Nat) (xs : List Value) (hown : w.ownsRow base e size v n xs) (hbase : base ≤ w.heap.size)
    (ad : Addr) (m c : Nat) (news : List Value) (hl : news.length = m * size) (hnews : ∀ j u, news[j]? = some u → w.cell? (ad.add j) = some u) (h1 : ∀ u ∈ news, u.oneCell' = true) (hp : 0 < m) (hb : n + m ≤ 1000000) (hb2 : bytes ≤ 1000) :
    ∃ v' w', (Builtin.append_ #[t, t] ty #[v, .slice (some ad) m c]).run Tryd.prog w = .ok v' w' ∧ w'.ownsRow base e size v' (n + m) (xs ++ news) ∧ w.grownBy w' v.ownBlock ∧
      (v'.ownBlock = v.ownBlock ∨ ∃ g, v'.ownBlock = some g ∧ w.heap.size ≤ g) := by
  have hmul : (n + m) * bytes ≤ 1000000 * 1000 := Nat.mul_le_mul hb hb2
  obtain ⟨v', w', hr, h2, h3, h4⟩ := run_append_own (P := Tryd.prog) w base t ty e i z size bytes ht hi hz0 hz1 hz2 hzs hsz v n xs hown ad m c news hl hnews h1 (by unfold maxLen; omega) (by omega) hbase
  refine ⟨v', w', hr, h2, h3, ?_⟩
  rcases hown.2 with ⟨rfl, h0⟩ | ⟨g, cap, cur, rfl, hbg, hg, hnc, hcm, hcs, htake⟩
  · right
    have hmul2 : m * bytes ≤ 1000000 * 1000 := Nat.mul_le_mul (by omega) hb2
    have hr2 := run_append_nil (P := Tryd.prog) w t ty e i z ht hi hz0 ad m c news (by rw [hz1]; exact hl) hnews hp (by omega) (by rw [hz2]; omega)
    rw [hr2] at hr
    injection hr with e1 e2
    subst e1
    exact ⟨_, rfl, Nat.le_refl _⟩
  · by_cases hroom : n + m ≤ cap
    · left
      have hr2 := run_append_room (P := Tryd.prog) w t ty e i ht hi g n cap cur hg ad m c news (by rw [hz1]; exact hl) hnews h1 hroom (by rw [hz1, hl, hcs, ← Nat.add_mul]; exact Nat.mul_le_mul_right _ hroom)
      rw [hr2] at hr
      injection hr with e1 e2
      subst e1
      rfl
    · right
      have holds : ∀ j u, xs[j]? = some u → w.cell? ((⟨g, 0, none⟩ : Addr).add j) = some u := hown.cells (g := g) rfl
      have hr2 := run_append_grow (P := Tryd.prog) w t ty e i z ht hi hz0 ⟨g, 0, none⟩ n cap xs (by rw [hz1]; exact hown.1) holds ad m c news (by rw [hz1]; exact hl) hnews (by omega) (by omega) (growslice_fits (by omega) (by rw [hz2]; omega))
      rw [hr2] at hr
      injection hr with e1 e2
      subst e1
      exact ⟨_, rfl, Nat.le_refl _⟩
theorem wpList_append_splitG {ops : Array Oper} {rest : List Oper} {o : Oper} {a : Act} {Q : Exit → Act → World → Prop} (w : World)
    (hg : o.guard = none) (s x : Operand) (t e : TypeId) (hop : o.op = Op.call { callee := Callee.builtin Builtin.append, args := #[s, x], argTypes := #[t, t] }) (i : TypeInfo) (z : Value) (size bytes : Nat) (ht : Tryd.prog.underlying t = some (.slice e)) (hi : Tryd.prog.info? e = some i) (hz0 : i.zero = some z)
    (hz1 : i.size = size) (hz2 : i.bytes = bytes) (hzs : z.cells.size = size) (hsz : 0 < size)
    (base : Nat) (v : Value) (n : Nat) (xs : List Value) (hs : a.eval s = v) (hown : w.ownsRow base e size v n xs) (hbase : base ≤ w.heap.size)
    (ad : Addr) (m c : Nat) (news : List Value) (hx : a.eval x = .slice (some ad) m c) (hl : news.length = m * size) (hnews : ∀ j u, news[j]? = some u → w.cell? (ad.add j) = some u) (h1 : ∀ u ∈ news, u.oneCell' = true) (hp : 0 < m) (hb : n + m ≤ 1000000) (hb2 : bytes ≤ 1000)
    (hK : ∀ v' w', w'.ownsRow base e size v' (n + m) (xs ++ news) → w.grownBy w' v.ownBlock → (v'.ownBlock = v.ownBlock ∨ ∃ g, v'.ownBlock = some g ∧ w.heap.size ≤ g) → wpList Tryd.prog ops Q rest (a.put o.dst v') w') :
    wpList Tryd.prog ops Q (o :: rest) a w := by
  refine wpList_plain hg fun K hK2 => ?_
  obtain ⟨v', w', hr, h2, h3, h4⟩ := run_append_splitG w base t o.type e i z size bytes ht hi hz0 hz1 hz2 hzs hsz v n xs hown hbase ad m c news hl hnews h1 hp hb hb2
  unfold Oper.wp execOp
  simp only [hop, resolve, invoke, builtin, Sem.run_bind, Sem.run_pure, Result.andThen_ok, List.map_toArray, List.map_cons, List.map_nil, hs, hx, hr]
  exact hK2 _ _ (hK v' w' h2 h3 h4)
set_option maxRecDepth 100000 in
set_option maxHeartbeats 1000000 in
theorem bequal_any (ao bo : Option Addr) (n c m d : Nat) (xs ys : List UInt8) (w : World) (hx : Bytes w ao n xs) (hy : Bytes w bo m ys) :
    Calls Tryd.prog 46 #[.slice ao n c, .slice bo m d] w fun e w' => e = .returned (.bool (decide (xs = ys))) ∧ w' = w := by
  have h1 := str_bytes c hx
  have h2 := str_bytes d hy
  have HR : Hid ((xs == ys) = decide (xs = ys)) := by
    show _ = _
    by_cases h : xs = ys
    · subst h; simp
    · simp [h]
  clear hx hy
  go_enter Tryd.func46, Tryd.ntmps46
  go_wp2
  go_ret
  exact ⟨by rw [← HR.out]; rfl, rfl⟩
theorem fixOf_lt (bs : List UInt8) : (fixOf bs).1 < 4294967296 := by
  unfold fixOf
  split
  · simp
  · have h0 := (bs.getD 0 0).toNat_lt
    have h1 := (bs.getD 1 0).toNat_lt
    have h2 := (bs.getD 2 0).toNat_lt
    have h3 := (bs.getD 3 0).toNat_lt
    simp only
    omega
set_option maxRecDepth 100000 in
set_option maxHeartbeats 1000000 in
theorem footAt_any (ao : Option Addr) (n c : Nat) (bs : List UInt8) (w : World) (hb : Bytes w ao n bs) (hnc : n ≤ c) (hn : n ≤ 1000000) (hc : c ≤ 9223372036854775807) :
    Calls Tryd.prog 102 #[.slice ao n c] w fun e w' => Below w.heap.size w w' ∧ if 4 ≤ n ∧ (footN bs + 1) * 4 ≤ n then e = .returned (.int .i64 ((n - (footN bs + 1) * 4 : Nat) : Int)) else e = .panicked nb := by
  by_cases h4 : 4 ≤ n
  · have h4z : (4 : Int) ≤ (n : Int) := by omega
    obtain ⟨b, off, rfl, _⟩ := bytes_at hb (by omega)
    have hw4 : wrap64 ((n : Int) - 4) = ((n - 4 : Nat) : Int) := by unfold wrap64; omega
    have hsl : ((n - 4 : Nat) : Int) ≤ (n : Int) := by omega
    have hslc : ((n - 4 : Nat) : Int) < (c : Int) := by omega
    have CF := fixed_any (some ⟨b, off + (n - 4), none⟩) (n - (n - 4)) (c - (n - 4)) (bs.drop (n - 4)) w (bytes_drop hb (n - 4))
    have hfl := fixOf_lt (bs.drop (n - 4))
    have HF : Hid (footN bs = (fixOf (bs.drop (n - 4))).1) := by show _ = _; unfold footN; rw [hb.1]
    rw [HF.out]
    obtain ⟨⟨f, okf⟩, HX⟩ : ∃ x, Hid (fixOf (bs.drop (n - 4)) = x) := ⟨_, rfl⟩
    rw [HX.out] at CF hfl ⊢
    simp only at hfl
    have HCF : Hid _ := CF
    clear CF hb HX HF
    have hwa : IntKind.u64.wrap ((f : Int) + 1) = f + 1 := by rw [IntKind.wrap_u64]; omega
    have hwb : IntKind.u64.wrap (((f : Int) + 1) * 4) = (f + 1) * 4 := by rw [IntKind.wrap_u64]; omega
    have hwc : IntKind.u64.wrap (n : Int) = n := by rw [IntKind.wrap_u64]; omega
    have hwf : IntKind.u64.wrap (f : Int) = f := by rw [IntKind.wrap_u64]; omega
    have hwd : wrap64 (((f : Int) + 1) * 4) = (f + 1) * 4 := by unfold wrap64; omega
    by_cases hle : (f + 1) * 4 ≤ n
    · have hlz : ((f : Int) + 1) * 4 ≤ (n : Int) := by omega
      have hwe : wrap64 ((n : Int) - ((f : Int) + 1) * 4) = ((n - (f + 1) * 4 : Nat) : Int) := by unfold wrap64; omega
      simp only [if_pos (And.intro h4 hle)]
      go_enter Tryd.func102, Tryd.ntmps102
      go_wp2_with fail
      refine (must_yes _).mono ?_
      rintro e w2 ⟨rfl, rfl⟩
      go_wp2_with fail
      refine Calls.mono HCF.out ?_
      rintro e w2 ⟨rfl, hb2⟩
      have HB2 : Hid _ := hb2
      clear hb2
      go_wp2_with fail
      refine (must_yes _).mono ?_
      rintro e w3 ⟨rfl, rfl⟩
      go_wp2
      go_ret
      exact ⟨HB2.out, ret_i64 (by omega)⟩
    · have hlz : ¬ ((f : Int) + 1) * 4 ≤ (n : Int) := by omega
      have hlzd : decide (((f : Int) + 1) * 4 ≤ (n : Int)) = false := by simp; omega
      have hno : ¬ (4 ≤ n ∧ (f + 1) * 4 ≤ n) := fun h => hle h.2
      simp only [if_neg hno]
      clear hno
      go_enter Tryd.func102, Tryd.ntmps102
      go_wp2_with fail
      refine (must_yes _).mono ?_
      rintro e w2 ⟨rfl, rfl⟩
      go_wp2_with fail
      refine Calls.mono HCF.out ?_
      rintro e w2 ⟨rfl, hb2⟩
      have HB2 : Hid _ := hb2
      clear hb2
      go_wp2_with fail
      refine (must_no _).mono ?_
      rintro e w3 ⟨rfl, rfl⟩
      exact ⟨rfl, HB2.out, rfl⟩
  · have h4z : ¬ (4 : Int) ≤ (n : Int) := by omega
    have h4d : decide ((4 : Int) ≤ (n : Int)) = false := by simp; omega
    simp only [if_neg (fun h : 4 ≤ n ∧ (footN bs + 1) * 4 ≤ n => h4 h.1)]
    clear hb
    go_enter Tryd.func102, Tryd.ntmps102
    go_wp2_with fail
    refine (must_no _).mono ?_
    rintro e w2 ⟨rfl, rfl⟩
    exact ⟨rfl, Below.refl _ _, rfl⟩
end Go.Proofs.YtcgjhopfdpaocaaDoor
namespace Go.Proofs.YtcgjhopfdpaocaaDoor
open Go.RowKit
def nbR : List PanicEntry := [{ v := .iface 124 (.agg #[]), recovered := true }]
theorem catch_idle (p : Addr) (w : World) :
    CallsD Tryd.prog 86 #[.pointer (some p)] .returning w fun e u' w' => e = .returned (.tuple #[]) ∧ u' = .returning ∧ w' = w := by
  refine callsD_of_wpS Tryd.func86 rfl fun c₀ cs hu => ?_
  apply wpS_seq
  apply wpS_region
  simp [wpOpsS, go_sem, recoverD, hu, Tryd.ntmps86, Exit.thenS]
  refine wpS_of_wp ?_
  go_wp2
  cases c₀
  simp_all [bodyPostS, results, Tryd.results86]
set_option maxRecDepth 100000 in
set_option maxHeartbeats 1000000 in
theorem catch_panicking (p : Addr) (x : Int) (w : World) (hc : w.cell? p = some (.int .i64 x)) (hz : w.frozen? p = false) :
    CallsD Tryd.prog 86 #[.pointer (some p)] (.panicking nb) w fun e u' w' => e = .returned (.tuple #[]) ∧ u' = .panicking nbR ∧ w' = (w.alloc (.cells #[] 124)).setCell p (.int .i64 2) := by
  unfold nb nbR
  have hta : ∀ w : World, (Instr.typeAssert (.iface 124 (.agg #[])) 20 124 true).run Tryd.prog w = .ok (.tuple #[.agg #[], .bool true]) w := fun _ => by kernel_rfl
  have hlt : p.block < w.heap.size := World.block_lt_of_cell? w p hc
  have hz' : ∀ o, (w.alloc o).frozen? p = false := fun o => by rw [Below.frozen (bel_alloc w o) hlt]; exact hz
  have hc' : ∀ o, (w.alloc o).cell? p = some (.int .i64 x) := fun o => by rw [Below.cell (bel_alloc w o) hlt]; exact hc
  clear hlt
  refine callsD_of_wpS Tryd.func86 rfl fun c₀ cs hu => ?_
  apply wpS_seq
  apply wpS_region
  simp [wpOpsS, go_sem, recoverD, hu, Tryd.ntmps86, Exit.thenS]
  refine wpS_of_wp ?_
  go_wp2
  simp [bodyPostS, results, Tryd.results86]
theorem heap_set1 (w : World) (g : Nat) (a v : Value) (t : TypeId) (hg : w.heap[g]? = some (.cells #[a] t (0, 0))) : (w.setCell ⟨g, 0, none⟩ v).heap[g]? = some (.cells #[v] t (0, 0)) := by
  unfold World.setCell
  simp only [Array.getElem?_modify, if_pos, hg, Option.map_some]
  rfl
/-- What block.Parse answers, if list answers so. -/
theorem parse_of_list (ao : Option Addr) (n c : Nat) (w : World) (R : Ending → World → Prop)
    (hl : ∀ o, Calls Tryd.prog 87 #[.slice ao n c] (w.alloc o) fun e w' => Below (w.heap.size + 1) (w.alloc o) w' ∧ ((e = .panicked nb ∧ ∀ w'', Below w.heap.size w w'' → R (.returned (.tuple #[.slice none 0 0, .int .i64 2])) w'') ∨ ∃ v, e = .returned v ∧ ∀ w'', (∀ k, k ≠ w.heap.size → w''.heap[k]? = w'.heap[k]?) → Below w.heap.size w w'' → R (.returned (.tuple #[v, .int .i64 0])) w'')) :
    Calls Tryd.prog 71 #[.slice ao n c] w R := by
  have hmf : ∀ (fn : Fn) (first cap : Array Value) (w : World), (Instr.makeFunc fn first cap).run Tryd.prog w = .ok (.func fn first cap) w := fun _ _ _ _ => rfl
  go_enter_defers Tryd.func71, Tryd.ntmps71
  go_wp2_with fail
  refine (hl _).mono ?_
  rintro e w2 ⟨hb2, h⟩
  have hblk : w2.heap[w.heap.size]? = some (.cells #[.int .i64 0] 26 (0, 0)) := by rw [hb2.block _ (Nat.lt_succ_self _), heap_alloc_new]
  have hcl : w2.cell? ⟨w.heap.size, 0, none⟩ = some (.int .i64 0) := by simp [World.cell?, hblk]
  have hfz : w2.frozen? ⟨w.heap.size, 0, none⟩ = false := by simp [World.frozen?, hblk]
  have HB : Hid (Below w.heap.size w w2) := (bel_alloc w _).trans (hb2.mono (Nat.le_succ _))
  have HBK : Hid _ := hblk
  have HH : Hid _ := h
  clear hb2 h hblk
  rcases HH.out with ⟨rfl, h⟩ | ⟨v, rfl, h⟩
  · have H1 : Hid _ := h
    clear h HH
    go_wp2_with fail
    refine leaves_cons (f := 86) (args := #[.pointer (some ⟨w.heap.size, 0, none⟩)]) (by simp) (by simp [go_sem]) ?_
    refine (catch_panicking ⟨w.heap.size, 0, none⟩ 0 _ hcl hfz).mono ?_
    rintro e u' w'' ⟨rfl, rfl, rfl⟩
    have hlt : w.heap.size < w2.heap.size := (Array.getElem?_eq_some_iff.1 HBK.out).1
    have hN : ((w2.alloc (Obj.cells #[] 124)).setCell ⟨w.heap.size, 0, none⟩ (.int .i64 2)).cell? ⟨w.heap.size, 0, none⟩ = some (.int .i64 2) := by
      have h3 : (w2.alloc (Obj.cells #[] 124)).heap[w.heap.size]? = some (.cells #[.int .i64 0] 26 (0, 0)) := by rw [Below.heap_alloc _ _ _ hlt]; exact HBK.out
      have h4 := heap_set1 (w2.alloc (Obj.cells #[] 124)) w.heap.size (.int .i64 0) (.int .i64 2) 26 h3
      simp [World.cell?, h4]
    have hR := H1.out ((w2.alloc (Obj.cells #[] 124)).setCell ⟨w.heap.size, 0, none⟩ (.int .i64 2)) ((HB.out.alloc HB.out.size _).setCell (Nat.le_refl _) _)
    simp [Leaves, settle, results, Tryd.results71, go_sem, nbR, hN, hR]
  · have H1 : Hid _ := h
    clear h HH
    go_wp2_with fail
    refine leaves_cons (f := 86) (args := #[.pointer (some ⟨w.heap.size, 0, none⟩)]) (by simp) (by simp [go_sem]) ?_
    refine (catch_idle ⟨w.heap.size, 0, none⟩ _).mono ?_
    rintro e u' w'' ⟨rfl, rfl, rfl⟩
    have hN : (w2.setCell ⟨w.heap.size, 0, none⟩ (.int .i64 0)).cell? ⟨w.heap.size, 0, none⟩ = some (.int .i64 0) := by
      have h4 := heap_set1 w2 w.heap.size (.int .i64 0) (.int .i64 0) 26 HBK.out
      simp [World.cell?, h4]
    have hR := H1.out (w2.setCell ⟨w.heap.size, 0, none⟩ (.int .i64 0)) (fun k hk => Below.heap_setCell _ _ _ _ hk) (HB.out.setCell (Nat.le_refl _) _)
    simp [Leaves, settle, results, Tryd.results71, go_sem, hN, hR]
end Go.Proofs.YtcgjhopfdpaocaaDoor

/-
  A key's place parts a sorted list: what the law EntryFinds answers, for any arguments.
-/
import Derived.Test.YteemfhhhdhddhaaArgs
namespace Go.Proofs.Yteemfhhhdhddhaa
open Go.RowKit Go.Sort Go.Shelf
set_option linter.unusedSectionVars false
variable [Inhabited E]
theorem own_entsV {w : World} {base : Nat} {v : Value} {n : Nat} {es : List E} (h : w.ownsRow base 23 4 v n (flatE es)) (hn : es.length = n) : ∃ ao c, v = .slice ao n c ∧ EntsV w ao n es := by
  by_cases hp : 0 < n
  · obtain ⟨g, c, rfl, hE, _⟩ := own_shapeE h hp
    exact ⟨_, c, rfl, hn, fun _ => ⟨g, 0, rfl, hE⟩⟩
  · obtain rfl : n = 0 := by omega
    rcases h.2 with ⟨hv, _⟩ | ⟨g, cap, cur, rfl, _⟩
    · exact ⟨none, 0, hv, hn, fun h => absurd h (by omega)⟩
    · exact ⟨_, cap, rfl, hn, fun h => absurd h (by omega)⟩
theorem EntsV.below {w w' : World} {ao : Option Addr} {n B : Nat} {es : List E} (h : EntsV w ao n es) (hb : Below B w w') (hB : w.heap.size ≤ B) : EntsV w' ao n es :=
  ⟨h.1, fun hp => by obtain ⟨b, off, h1, h2⟩ := h.2 hp; exact ⟨b, off, h1, h2.below hb hB⟩⟩
theorem belowN_cons (key : ByteArray) (e : E) (r : List E) : belowN key (e :: r) = (if cmpS e.key key < 0 then 1 else 0) + belowN key r := by
  unfold belowN; rw [List.countP_cons, Nat.add_comm]; by_cases h : cmpS e.key key < 0 <;> simp [h]
theorem belowN_zero {key : ByteArray} {r : List E} (h : ∀ e ∈ r, ¬ cmpS e.key key < 0) : belowN key r = 0 := by
  unfold belowN; rw [List.countP_eq_zero]; intro e he; simpa using h e he
theorem ks_place (key : ByteArray) : ∀ {l : List E}, Ks l → ∀ i, i < l.length → (cmpS l[i]!.key key < 0 ↔ i < belowN key l)
  | [], _, i, h => by simp at h
  | e :: r, hk, i, h => by
    have hk' := List.pairwise_cons.1 hk
    rw [belowN_cons]
    by_cases c : cmpS e.key key < 0
    · rw [if_pos c]
      cases i with
      | zero => simp [c]; omega
      | succ i =>
        have := ks_place key hk'.2 i (by simpa using h)
        simp only [List.getElem!_cons_succ]
        rw [this]; omega
    · have hz : belowN key r = 0 := belowN_zero fun x hx hc => c (cmpS_ord.ltle (hk'.1 x hx) (by omega))
      rw [if_neg c, hz]
      cases i with
      | zero => exact ⟨fun h => absurd h c, fun h => by omega⟩
      | succ i =>
        have hi : i < r.length := by simpa using h
        simp only [List.getElem!_cons_succ]
        have : ¬ cmpS r[i]!.key key < 0 := fun hc => by
          rw [getElem!_pos r i hi] at hc
          exact c (cmpS_ord.ltle (hk'.1 _ (List.getElem_mem hi)) (by omega))
        exact ⟨fun h => absurd h this, fun h => by omega⟩
theorem ks_isIn (key : ByteArray) : ∀ {l : List E}, Ks l → isIn key l = (decide (belowN key l < l.length) && decide (l[belowN key l]!.key = key))
  | [], _ => rfl
  | e :: r, hk => by
    have hk' := List.pairwise_cons.1 hk
    have ih := ks_isIn key hk'.2
    have hu : isIn key (e :: r) = (decide (e.key = key) || isIn key r) := by unfold isIn; rw [List.any_cons]
    rw [hu, belowN_cons]
    by_cases c : cmpS e.key key < 0
    · have hne : ¬ e.key = key := fun h => by rw [h] at c; have := cmpS_ord.self key; omega
      rw [if_pos c, ih, Nat.add_comm 1]
      simp [hne]
    · have hz : belowN key r = 0 := belowN_zero fun x hx hc => c (cmpS_ord.ltle (hk'.1 x hx) (by omega))
      rw [if_neg c, hz]
      by_cases h2 : e.key = key
      · simp [h2]
      · have : isIn key r = false := by
          unfold isIn
          rw [List.any_eq_false]
          intro x hx hc
          simp at hc
          have h3 := hk'.1 x hx
          rw [hc] at h3
          exact c h3
        simp [h2, this]
theorem foldS_len (l : List E) : (foldS l).length ≤ l.length := by
  have hi : ∀ (a : List E) (e : E), (insS a e).length ≤ a.length + 1 := by
    intro a e
    induction a with
    | nil => simp [insS]
    | cons x r ih =>
      rw [insS]
      split
      · simpa using ih
      · split
        · split <;> simp
        · simp
  have : ∀ (l a : List E), (l.foldl insS a).length ≤ a.length + l.length := by
    intro l
    induction l with
    | nil => intro a; simp
    | cons e l ih =>
      intro a
      have h1 := ih (insS a e)
      have h2 := hi a e
      simp only [List.foldl_cons, List.length_cons]
      omega
  have h := this l []
  rw [List.length_nil, Nat.zero_add] at h
  exact h
set_option maxRecDepth 100000 in
set_option maxHeartbeats 4000000 in
theorem finds_walk (ao : Option Addr) (n c : Nat) (es : List E) (key : ByteArray) (w : World) (hE : EntsV w ao n es) (hsm : Small es) (hnc : n ≤ c) (hc : c ≤ 9223372036854775807) :
    Calls Try.prog 10 #[.slice ao n c, .string key] w fun e w' => e = .returned (.bool true) ∧ Below w.heap.size w w' := by
  go_enter Try.func10, Try.ntmps10
  go_wp2_with fail
  refine (shown_any w).mono ?_
  rintro e w1 ⟨rfl, hb1⟩
  go_wp2_with fail
  refine (few_any ao n c 60 es w1 (hE.below hb1 (Nat.le_refl _)) hsm (by omega) (by omega)).mono ?_
  rintro e w2 ⟨v2, rfl, hown2, hb2⟩
  have hl2 := fewS_len 200 1100 60 es
  obtain ⟨fs, HF⟩ : ∃ fs, Hid (fewS 200 1100 60 es = fs) := ⟨_, rfl⟩
  rw [HF.out] at hown2 hl2
  obtain ⟨ao2, c2, rfl, hE2⟩ := own_entsV hown2 rfl
  have hB2 : Below w.heap.size w w2 := hb1.trans (hb2.mono hb1.size)
  clear hown2 hb1 hb2 hE hsm
  have h60 : fs.length ≤ 60 := by omega
  clear hl2
  go_wp2_with fail
  refine (fold_any ao2 fs.length c2 fs w2 hE2 (by omega)).mono ?_
  rintro e w3 ⟨v3, rfl, hown3, hb3⟩
  have hl3 := foldS_len fs
  have hk := ks_foldS fs
  obtain ⟨f, HG⟩ : ∃ f, Hid (foldS fs = f) := ⟨_, rfl⟩
  rw [HG.out] at hown3 hl3 hk
  obtain ⟨ao3, c3, rfl, hE3⟩ := own_entsV hown3 rfl
  have hB3 : Below w.heap.size w w3 := hB2.trans (hb3.mono hB2.size)
  clear hown3 hb3 hB2 hE2
  have hf60 : f.length ≤ 60 := by omega
  clear hl3
  go_wp2_with fail
  refine (find_any ao3 f.length c3 f key w3 hE3 (by omega)).mono ?_
  rintro e w4 ⟨rfl, hb4⟩
  have hE4 := hE3.below hb4 (Nat.le_refl _)
  have hB4 : Below w.heap.size w w4 := hB3.trans (hb4.mono hB3.size)
  have hbl := belowN_le key f
  have HP : Hid _ := ks_place key hk
  have HI : Hid _ := ks_isIn key hk
  obtain ⟨m, HM⟩ : ∃ m, Hid (belowN key f = m) := ⟨_, rfl⟩
  obtain ⟨y, HY⟩ : ∃ y, Hid (isIn key f = y) := ⟨_, rfl⟩
  rw [HM.out, HY.out]
  rw [HM.out] at hbl
  have HE4 : Hid _ := hE4
  have HB4 : Hid _ := hB4
  clear hE3 hb4 hB3 hE4 hB4 hk
  obtain ⟨l, HL⟩ : ∃ l, Hid (f.length = l) := ⟨_, rfl⟩
  rw [HL.out] at hbl hf60 ⊢
  have g1 : ¬ ((m : Int) < 0) := by omega
  have g2 : ¬ ((l : Int) < (m : Int)) := by omega
  go_wp2
  go_loopw [9] (fun x wr => ∃ i : Nat, x = .int .i64 i ∧ i ≤ l ∧ wr = w4) (fun x _ => l - (intOf x).toNat)
  case atStart => exact ⟨0, rfl, by omega, rfl⟩
  case round =>
    obtain ⟨i, rfl, hil, rfl⟩ := hrel
    by_cases hlt : i < l
    · have hltz : (i : Int) < (l : Int) := by omega
      obtain ⟨b, off, hao, hEn⟩ := HE4.out.2 (by have := HL.out; omega)
      obtain ⟨k0, v0, d0, q0, HX⟩ : ∃ k0 v0 d0 q0, Hid (f[i]! = E.mk k0 v0 d0 q0) := ⟨_, _, _, _, rfl⟩
      obtain ⟨c0, -, -, -⟩ := ents_four hEn i (by have := HL.out; omega) HX.out
      subst hao
      have hpl := HP.out i (by have := HL.out; omega)
      rw [HX.out, HM.out] at hpl
      have e1 := less_cmpS k0 key
      clear hEn
      by_cases h1 : cmpS k0 key < 0
      · have e1' : Op.bytesLess k0.toList key.toList = true := by rw [e1]; exact decide_eq_true h1
        have him : (i : Int) < (m : Int) := by have := hpl.1 h1; omega
        clear e1 hpl
        go_wp2
        go_roundw
        case rel => exact ⟨i + 1, by go_num, by omega, by first | rfl | trivial⟩
        case measure => simp [intOf]; omega
      · have e1' : Op.bytesLess k0.toList key.toList = false := by rw [e1]; exact decide_eq_false h1
        have him : ¬ (i : Int) < (m : Int) := fun h => h1 (hpl.2 (by omega))
        clear e1 hpl
        go_wp2
        go_roundw
        case rel => exact ⟨i + 1, by go_num, by omega, by first | rfl | trivial⟩
        case measure => simp [intOf]; omega
    · have hltz : ¬ (i : Int) < (l : Int) := by omega
      have hI := HI.out
      rw [HM.out, HY.out, HL.out] at hI
      by_cases hml : m < l
      · have hmlz : (m : Int) < (l : Int) := by omega
        obtain ⟨b, off, hao, hEn⟩ := HE4.out.2 (by have := HL.out; omega)
        obtain ⟨k0, v0, d0, q0, HX⟩ : ∃ k0 v0 d0 q0, Hid (f[m]! = E.mk k0 v0 d0 q0) := ⟨_, _, _, _, rfl⟩
        obtain ⟨c0, -, -, -⟩ := ents_four hEn m (by have := HL.out; omega) HX.out
        subst hao
        rw [HX.out] at hI
        have e2 := eq_cmpS k0 key
        rw [decide_eq_true hml, Bool.true_and] at hI
        have e2' : (k0.toList == key.toList) = y := by rw [e2, hI]
        clear e2 hEn hI
        cases y <;> (go_wp2; go_ret; exact ⟨rfl, HB4.out⟩)
      · have hmlz : ¬ (m : Int) < (l : Int) := by omega
        rw [decide_eq_false hml, Bool.false_and] at hI
        subst hI
        go_wp2
        go_ret
        exact ⟨rfl, HB4.out⟩
end Go.Proofs.Yteemfhhhdhddhaa

/-
  Just what is fit has a block: what the law BlockFits answers, for any arguments. Keys that begin alike take less room: what the law BlockSmall answers, for any arguments. There is one way to write an entry: plain mathematics, no program.
-/
import Derived.Test.YtecacjddggljgaaDoorPartBA
import Derived.Test.YtecacjddggljgaaDoorPartAI
namespace Go.Proofs.YtecacjddggljgaaDoor
open Go.RowKit Go.Sort Go.Shelf
set_option linter.unusedSectionVars false
variable [Inhabited E] [DecidableEq E]
theorem all_snoc (es : List E) (i : Nat) (h : i < es.length) : (es.take (i + 1)).all rightB = ((es.take i).all rightB && rightB es[i]!) := by
  rw [take_snoc es i h, List.all_append]; simp
end Go.Proofs.YtecacjddggljgaaDoor
namespace Go.Proofs.YtecacjddggljgaaDoor
open Go.RowKit Go.Sort Go.Shelf
set_option linter.unusedSectionVars false
variable [Inhabited E] [DecidableEq E]
/-- Entries, folded, those that are right, at most as many as a block has. -/
def fitS (es : List E) : List E := ((foldS (fewS 130 1030 70 es)).filter rightB).take 64
theorem insS_all {p : E → Prop} {a : List E} {e : E} (ha : ∀ x ∈ a, p x) (he : p e) : ∀ x ∈ insS a e, p x := by
  intro x hx
  rcases insS_mem hx with rfl | h
  · exact he
  · exact ha x h
theorem foldl_all {p : E → Prop} : ∀ (l a : List E), (∀ x ∈ a, p x) → (∀ x ∈ l, p x) → ∀ x ∈ l.foldl insS a, p x
  | [], _, ha, _ => ha
  | e :: l, a, ha, hl => foldl_all l (insS a e) (insS_all ha (hl e (List.mem_cons_self ..))) (fun x hx => hl x (List.mem_cons_of_mem _ hx))
theorem foldS_all {p : E → Prop} {l : List E} (h : ∀ x ∈ l, p x) : ∀ x ∈ foldS l, p x := foldl_all l [] (fun _ hx => by cases hx) h
theorem fitS_right (es : List E) : (fitS es).all rightB = true := by
  rw [List.all_eq_true]
  intro e he
  exact (List.mem_filter.1 (List.mem_of_mem_take he)).2
theorem fitS_ks (es : List E) : Ks (fitS es) := ((ks_foldS _).sublist List.filter_sublist).sublist (List.take_sublist _ _)
theorem fitS_len (es : List E) : (fitS es).length ≤ 64 := by unfold fitS; rw [List.length_take]; omega
theorem fitS_fit (es : List E) (h : 1 ≤ (fitS es).length) : fitB (fitS es) = true := by
  unfold fitB
  rw [decide_eq_true ⟨h, fitS_len es⟩, fitS_right, sortedB_ks.2 (fitS_ks es)]
  rfl
theorem right_small {es : List E} (h : es.all rightB = true) : Small es := by
  intro e he
  rw [List.all_eq_true] at h
  obtain ⟨h1, h2, _⟩ := right_parts (h e he)
  exact ⟨by omega, by omega⟩
set_option maxRecDepth 100000 in
set_option maxHeartbeats 4000000 in
theorem fit4_any (ao : Option Addr) (n c : Nat) (es : List E) (w : World) (hE : EntsV w ao n es) (hsm : Small es) (hbig : n ≤ 9223372036854775807) :
    Calls Tryd.prog 29 #[.slice ao n c] w fun e w' => ∃ v', e = .returned v' ∧ w'.ownsRow w.heap.size 54 4 v' (fitS es).length (flatE (fitS es)) ∧ Below w.heap.size w w' := by
  obtain ⟨i0, hi, hz0, hz1, hz2⟩ := info_parts info23
  obtain ⟨out, HOUT⟩ : ∃ o, Hid (fitS es = o) := ⟨_, rfl⟩
  rw [HOUT.out]
  go_enter Tryd.func29, Tryd.ntmps29
  go_wp2_with fail
  refine (few4_any ao n c 70 es w hE hsm hbig (by omega)).mono ?_
  rintro e w1 ⟨v1, rfl, hown1, hb1⟩
  have hl1 := fewS_len 130 1030 70 es
  have hs1 := fewS_small 130 1030 70 es hsm
  obtain ⟨fs, HF⟩ : ∃ fs, Hid (fewS 130 1030 70 es = fs) := ⟨_, rfl⟩
  rw [HF.out] at hown1 hl1 hs1
  obtain ⟨ao1, c1, rfl, hE1⟩ := own_entsV hown1 rfl
  have HB1 : Hid _ := hb1
  clear hown1 hb1 hE hsm
  have h70 : fs.length ≤ 70 := by omega
  clear hl1
  go_wp2_with fail
  refine (fold_any ao1 fs.length c1 fs w1 hE1 (by omega)).mono ?_
  rintro e w2 ⟨v2, rfl, hown2, hb2⟩
  have hl2 := foldS_len fs
  have hs2 : Small (foldS fs) := foldS_all hs1
  have HOF : Hid (out = ((foldS fs).filter rightB).take 64) := by show _ = _; rw [← HOUT.out, fitS, HF.out]
  obtain ⟨f, HG⟩ : ∃ f, Hid (foldS fs = f) := ⟨_, rfl⟩
  rw [HG.out] at hown2 hl2 hs2 HOF
  obtain ⟨ao2, c2, rfl, hE2⟩ := own_entsV hown2 rfl
  obtain ⟨l, HL⟩ : ∃ l, Hid (f.length = l) := ⟨_, rfl⟩
  have hl70 : l ≤ 70 := by rw [← HL.out]; omega
  rw [HL.out] at hE2 ⊢
  have HE2 : Hid _ := hE2
  have HS2 : Hid _ := hs2
  have HB2 : Hid (Below w.heap.size w w2) := HB1.out.trans (hb2.mono HB1.out.size)
  clear hown2 hb2 hE1 hE2 hs1 hs2 hl2
  go_wp2
  go_loopw [3, 5] (fun o x wr => ∃ i : Nat, x = .int .i64 i ∧ i ≤ l ∧ ((f.take i).filter rightB).length ≤ 64 ∧ wr.ownsRow w2.heap.size 54 4 o ((f.take i).filter rightB).length (flatE ((f.take i).filter rightB)) ∧ Below w2.heap.size w2 wr) (fun _ x _ => l - (intOf x).toNat)
  case atStart => exact ⟨0, rfl, by omega, by simp, World.ownsRow_nil _ _ _ _, Below.refl _ _⟩
  case round =>
    obtain ⟨i, rfl, hil, h64, hown, hbel⟩ := hrel
    obtain ⟨done, HD⟩ : ∃ d, Hid ((f.take i).filter rightB = d) := ⟨_, rfl⟩
    rw [HD.out] at h64 hown
    obtain ⟨aod, cd, hvd, hEd⟩ := own_entsV hown rfl
    subst hvd
    obtain ⟨dl, HDL⟩ : ∃ d, Hid (done.length = d) := ⟨_, rfl⟩
    rw [HDL.out] at hown h64
    rw [HDL.out]
    have HO : Hid _ := And.intro hown hbel
    clear hown hbel hEd
    by_cases hlt : i < l
    · have hltz : (i : Int) < (l : Int) := by omega
      by_cases hd64 : dl < 64
      · have hd64z : (dl : Int) < 64 := by omega
        obtain ⟨b, off, hao, hEn⟩ := HE2.out.2 (by omega)
        have hEr : Ents wr b off f := hEn.below HO.out.2 (Nat.le_refl _)
        obtain ⟨k0, v0, d0, q0, HX⟩ : ∃ k0 v0 d0 q0, Hid (f[i]! = E.mk k0 v0 d0 q0) := ⟨_, _, _, _, rfl⟩
        obtain ⟨c0, c1', c2', c3⟩ := ents_four hEr i (by rw [HL.out]; omega) HX.out
        obtain ⟨s0, s1⟩ := small_at HS2.out i (by rw [HL.out]; omega) HX.out
        subst hao
        obtain ⟨r, HR⟩ : ∃ r, Hid (rightB ⟨k0, v0, d0, q0⟩ = r) := ⟨_, rfl⟩
        have CR := fun w => right_any k0 v0 d0 q0 w s0 s1
        rw [HR.out] at CR
        have HCR : Hid _ := CR
        have HSN : Hid ((f.take (i + 1)).filter rightB = done ++ if r then [⟨k0, v0, d0, q0⟩] else []) := by
          show _ = _
          rw [take_snoc f i (by rw [HL.out]; omega), List.filter_append, HD.out, HX.out]
          congr 1
          rw [List.filter_cons, HR.out]
          cases r <;> simp
        have HEN : Hid _ := hEn
        clear CR hEr hEn s0 s1
        go_wp2_with fail
        refine (HCR.out _).mono ?_
        rintro e w4 ⟨rfl, hb4⟩
        have hB4 : Below w2.heap.size w2 w4 := HO.out.2.trans (hb4.mono HO.out.2.size)
        have HO4 : Hid (w4.ownsRow w2.heap.size 54 4 (.slice aod dl cd) dl (flatE done)) := own_below HO.out.1 hb4 (Nat.le_refl _)
        clear c0 c1' c2' c3 hb4
        cases r with
        | false =>
          have HN : Hid _ := hB4
          clear hB4
          go_wp2
          go_roundw
          case rel => exact ⟨i + 1, by go_num, by omega, by rw [HSN.out]; simp; rw [HDL.out]; omega, by rw [HSN.out]; simp only [Bool.false_eq_true, if_false, List.append_nil]; rw [HDL.out]; exact HO4.out, HN.out⟩
          case measure => simp [intOf]; omega
        | true =>
          obtain ⟨c0, c1', c2', c3⟩ := ents_four (Ents.below HEN.out hB4 (Nat.le_refl _)) i (by rw [HL.out]; omega) HX.out
          have HOA : Hid ((w4.alloc (Obj.cells #[.string k0, .string v0, .bool d0, .int .i64 q0] 54)).ownsRow w2.heap.size 54 4 (.slice aod dl cd) dl (flatE done)) := HO4.out.alloc _
          have HCA : Hid (∀ j u, (encE (E.mk k0 v0 d0 q0))[j]? = some u → (w4.alloc (Obj.cells #[.string k0, .string v0, .bool d0, .int .i64 q0] 54)).cell? ((⟨w4.heap.size, 0, none⟩ : Addr).add j) = some u) := ent_laid w4 k0 v0 d0 q0
          have HBA : Hid (w2.heap.size ≤ (w4.alloc (Obj.cells #[.string k0, .string v0, .bool d0, .int .i64 q0] 54)).heap.size) := by show _ ≤ _; have := hB4.size; simp; omega
          have HB4 : Hid _ := hB4
          clear hB4
          go_wp2_with (at_builtin; refine wpList_append_own _ rfl (.tmp 25) (.tmp 30) 22 rfl w2.heap.size 54 i0 _ 4 48 Tryd.underlying22 hi hz0 hz1 hz2 rfl (by decide) _ dl (flatE done) rfl HOA.out ⟨w4.heap.size, 0, none⟩ 1 1 (encE (E.mk k0 v0 d0 q0)) rfl rfl HCA.out (encE_one _) (by unfold maxLen; omega) (by omega) HBA.out ?_)
          intro v' w6 hown6 hgr6 _
          have hbel6 : Below w2.heap.size w2 w6 := (HB4.out.alloc HB4.out.size _).trans ((Below.refl _ _).grown hgr6 HBA.out (fun k hk => (HOA.out.lt k hk).1))
          clear hgr6 HOA HCA c0 c1' c2' c3
          have HN : Hid _ := And.intro hown6 hbel6
          clear hown6 hbel6
          go_wp2
          go_roundw
          case rel =>
            refine ⟨i + 1, by go_num, by omega, by rw [HSN.out, List.length_append, HDL.out]; simp; omega, ?_, HN.out.2⟩
            rw [HSN.out, flatE_append, List.length_append, HDL.out]
            simpa [flatE] using HN.out.1
          case measure => simp [intOf]; omega
      · have hd64z : ¬ (dl : Int) < 64 := by omega
        have HFI : Hid (out = done) := by
          show _ = _
          have h1 : f.filter rightB = done ++ (f.drop i).filter rightB := by rw [← HD.out, ← List.filter_append, List.take_append_drop]
          rw [HOF.out, h1, List.take_append_of_le_length (by rw [HDL.out]; omega), List.take_of_length_le (by rw [HDL.out]; omega)]
        have HN : Hid _ := And.intro (ownsRow_mono HO.out.1 HB2.out.size) (HB2.out.trans (HO.out.2.mono HB2.out.size))
        clear HO
        go_wp2
        go_ret
        exact ⟨_, rfl, by rw [HFI.out, HDL.out]; exact HN.out.1, HN.out.2⟩
    · have hltz : ¬ (i : Int) < (l : Int) := by omega
      have HFI : Hid (out = done) := by
        show _ = _
        have h1 := HD.out
        rw [List.take_of_length_le (by rw [HL.out]; omega)] at h1
        rw [HOF.out, h1, List.take_of_length_le (by rw [HDL.out]; omega)]
      have HN : Hid _ := And.intro (ownsRow_mono HO.out.1 HB2.out.size) (HB2.out.trans (HO.out.2.mono HB2.out.size))
      clear HO
      go_wp2
      go_ret
      exact ⟨_, rfl, by rw [HFI.out, HDL.out]; exact HN.out.1, HN.out.2⟩
theorem pressB_small (ah : ByteArray) (e : E) (h : rightB e = true) : (pressB ah e).length ≤ (bytesB e).length + 1 := by
  obtain ⟨h1, h2, qn, h3, h4, h5⟩ := right_parts h
  have hc := (comN_le (strB ah) (strB e.key)).2
  rw [strB_length] at hc
  have hk : (strB e.key).length = e.key.size := strB_length _
  generalize hcc : comN (strB ah) (strB e.key) = c at hc
  have a1 : (putB c).length ≤ c + 1 := by
    by_cases hz : c = 0
    · subst hz; decide
    · by_cases h7 : c < 128
      · rw [putB_small c h7]; simp
      · have := putB_more c (by omega) (by omega)
        rw [this, putB_small _ (by omega)]; simp; omega
  have a2 : (putB (e.key.size - c)).length ≤ (putB e.key.size).length := sz_mono _ _ (by omega)
  unfold pressB bytesB headB textB
  rw [h, hcc]
  simp only [if_true, List.length_append, List.length_cons, List.length_drop, hk]
  cases e.del with
  | true => simp; omega
  | false => simp; omega
/-- How long the bytes of the first entries are together, and one for each. -/
def sumB (es : List E) : Nat → Nat
  | 0 => 0
  | i + 1 => sumB es i + 1 + (bytesB es[i]!).length
theorem bodyB_small (es : List E) (hr : es.all rightB = true) : ∀ i, i ≤ es.length → (bodyB es i).length ≤ sumB es i
  | 0, _ => by simp [bodyB, sumB]
  | i + 1, h => by
    have h1 := bodyB_small es hr i (by omega)
    have h2 := pressB_small (aheadK es i) es[i]! (take_right hr i (by omega))
    rw [bodyB, List.length_append, sumB]; omega
theorem sumB_le (es : List E) : ∀ i, sumB es i ≤ 1201 * i
  | 0 => by simp [sumB]
  | i + 1 => by
    have h1 := sumB_le es i
    have h2 := bytesB_len es[i]!
    rw [sumB]; omega
end Go.Proofs.YtecacjddggljgaaDoor
namespace Go.Proofs.YtecacjddggljgaaDoor
open Go.RowKit
set_option linter.unusedSectionVars false
variable [Inhabited E] [DecidableEq E]
theorem take_add (l : List UInt8) (a b : Nat) : l.take (a + b) = l.take a ++ (l.drop a).take b := by
  rw [List.take_add]
theorem textOf_once (bs s : List UInt8) (n : Nat) (h : textOf bs = (s, n, true)) : 1 ≤ n ∧ n ≤ bs.length ∧ bs.take n = textB s ∧ s.length < 18446744073709551616 := by
  unfold textOf at h
  split at h
  · cases h
  · rename_i hc
    obtain ⟨⟨v, k, ok⟩, hg⟩ : ∃ x, getB bs = x := ⟨_, rfl⟩
    rw [hg] at h hc
    simp only [Prod.mk.injEq, and_true] at h
    have hok : ok = true := by cases ok with | true => rfl | false => exact absurd (.inl rfl) hc
    subst hok
    obtain ⟨h1, h2, h3, h4, _⟩ := getB_once bs v k hg
    obtain ⟨hs, hn⟩ := h
    have hlen : v ≤ bs.length - k := by
      have : ¬ (bs.length - k < v) := fun h => hc (.inr h)
      omega
    have hsl : s.length = v := by rw [← hs, List.length_take, List.length_drop]; omega
    refine ⟨by omega, by omega, ?_, by omega⟩
    rw [← hn, take_add, h4, hs, textB, hsl]
theorem wrap64_right {v : Nat} (hv : v < 18446744073709551616) (h1 : 1 ≤ wrap64 (v : Int)) (h2 : wrap64 (v : Int) ≤ 1099511627776) : wrap64 (v : Int) = v ∧ (wrap64 (v : Int)).toNat = v := by
  unfold wrap64 at *
  omega
theorem num0 {x : Nat} (h : ¬ 1 < x) (h2 : ¬ x = 1) : x = 0 := by omega
theorem num1 {k m l : Nat} (h1 : 1 ≤ k) (h2 : k ≤ l) (h3 : m ≤ l - k) : 1 ≤ 1 + k + m ∧ 1 + k + m ≤ l + 1 := by omega
theorem num2 {k m n l : Nat} (h1 : 1 ≤ k) (h2 : k ≤ l) (h3 : m ≤ l - k) (h4 : n ≤ l - (k + m)) : 1 ≤ 1 + k + m + n ∧ 1 + k + m + n ≤ l + 1 := by omega
theorem num3 (k m n : Nat) : 1 + k + m + n = (k + m + n) + 1 := by omega
theorem parse_once {bs : List UInt8} {e : E} {n : Nat} (h : parseOf bs = some (e, n)) : rightB e = true ∧ 1 ≤ n ∧ n ≤ bs.length ∧ bs.take n = bytesB e := by
  unfold parseOf at h
  split at h
  · rename_i x m hr
    split at h
    · rename_i hrt
      cases h
      cases bs with
      | nil => simp [readOf] at hr
      | cons t r =>
        simp only [readOf] at hr
        split at hr
        · cases hr
        · rename_i ht
          obtain ⟨⟨v, k, ok⟩, hg⟩ : ∃ x, getB r = x := ⟨_, rfl⟩
          rw [hg] at hr
          simp only at hr
          split at hr
          · cases hr
          · rename_i hok
            have hok : ok = true := by simpa using hok
            subst hok
            obtain ⟨g1, g2, g3, g4, _⟩ := getB_once r v k hg
            obtain ⟨⟨s, m1, ok1⟩, hg1⟩ : ∃ x, textOf (r.drop k) = x := ⟨_, rfl⟩
            rw [hg1] at hr
            simp only at hr
            split at hr
            · cases hr
            · rename_i hok1
              have hok1 : ok1 = true := by simpa using hok1
              subst hok1
              obtain ⟨t1, t2, t3, t4⟩ := textOf_once _ _ _ hg1
              rw [List.length_drop] at t2
              split at hr
              · rename_i ht1
                cases hr
                have hR := hrt
                simp only [rightB, decide_eq_true_eq] at hR
                obtain ⟨w1, w2⟩ := wrap64_right g1 hR.2.2.2.2.1 hR.2.2.2.2.2
                have htt : t = 1 := UInt8.toNat_inj.1 ht1
                refine ⟨hrt, (num1 g2 g3 t2).1, by rw [List.length_cons]; exact (num1 g2 g3 t2).2, ?_⟩
                rw [bytesB, hrt]
                simp only [if_true, headB]
                rw [show 1 + k + m1 = (k + m1) + 1 from by rw [Nat.add_assoc, Nat.add_comm], List.take_succ_cons, take_add, g4, t3, w2, htt, strB_mk]
                rfl
              · rename_i ht1
                obtain ⟨⟨s2, m2, ok2⟩, hg2⟩ : ∃ x, textOf (r.drop (k + m1)) = x := ⟨_, rfl⟩
                rw [hg2] at hr
                simp only at hr
                split at hr
                · cases hr
                · rename_i hok2
                  have hok2 : ok2 = true := by simpa using hok2
                  subst hok2
                  obtain ⟨u1, u2, u3, u4⟩ := textOf_once _ _ _ hg2
                  rw [List.length_drop] at u2
                  cases hr
                  have hR := hrt
                  simp only [rightB, decide_eq_true_eq] at hR
                  obtain ⟨w1, w2⟩ := wrap64_right g1 hR.2.2.2.2.1 hR.2.2.2.2.2
                  have htt : t = 0 := UInt8.toNat_inj.1 (num0 ht ht1)
                  refine ⟨hrt, (num2 g2 g3 t2 u2).1, by rw [List.length_cons]; exact (num2 g2 g3 t2 u2).2, ?_⟩
                  rw [bytesB, hrt]
                  simp only [if_true, headB, Bool.false_eq_true, if_false]
                  rw [show 1 + k + m1 + m2 = (k + m1 + m2) + 1 from num3 k m1 m2, List.take_succ_cons, take_add, take_add, g4, t3, u3, w2, htt, strB_mk, strB_mk]
                  rfl
    · cases h
  · cases h
end Go.Proofs.YtecacjddggljgaaDoor

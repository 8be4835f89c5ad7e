/-
  Entries behind one another are read as they were: what the law EntryRow answers, for any arguments.
-/
import Derived.Test.YteemfhhhdhddhaaParse
namespace Go.Proofs.Yteemfhhhdhddhaa
open Go.RowKit Go.Sort Go.Shelf
set_option linter.unusedSectionVars false
variable [Inhabited E] [DecidableEq E]
/-- The bytes of entries, one behind the other. -/
def rowB (es : List E) : List UInt8 := es.flatMap bytesB
theorem rowB_snoc (es : List E) (e : E) : rowB (es ++ [e]) = rowB es ++ bytesB e := by simp [rowB]
theorem rowB_cons (es : List E) (e : E) : rowB (e :: es) = bytesB e ++ rowB es := by simp [rowB]
theorem textB_len (s : List UInt8) : (textB s).length ≤ s.length + 10 := by
  have := putB_le s.length
  rw [textB, List.length_append]; omega
theorem bytesB_len (e : E) : (bytesB e).length ≤ 1200 := by
  unfold bytesB
  cases h : rightB e with
  | false => simp
  | true =>
    obtain ⟨h1, h2, qn, h3, h4, h5⟩ := right_parts h
    have a1 := textB_len (strB e.key)
    have a2 := textB_len (strB e.value)
    have a3 := putB_le e.seq.toNat
    rw [strB_length] at a1 a2
    have a4 : (headB e).length ≤ 1 + 10 + 138 := by
      unfold headB
      simp only [List.length_append, List.length_cons]
      omega
    simp only [if_true]
    split
    · omega
    · rw [List.length_append]; omega
theorem rowB_len : ∀ es : List E, (rowB es).length ≤ 1200 * es.length
  | [] => by simp [rowB]
  | e :: es => by
    have h1 := rowB_len es
    have h2 := bytesB_len e
    rw [rowB_cons, List.length_append, List.length_cons]; omega
theorem read_bytes (e : E) (h : rightB e = true) (more : List UInt8) : readOf (bytesB e ++ more) = some (e, (bytesB e).length) := by
  obtain ⟨h1, h2, qn, h3, h4, h5⟩ := right_parts h
  have hdel : e.del = true → e.value = ⟨#[]⟩ := by
    intro hd
    simp only [rightB, decide_eq_true_eq] at h
    exact (size_zero e.value).1 (h.2.2.2.1 hd)
  obtain ⟨k, v, d, q⟩ := e
  simp only at h1 h2 h3 hdel
  subst h3
  have hq : wrap64 (qn : Int) = qn := by unfold wrap64; omega
  have g1 : ∀ m, getB (putB qn ++ m) = (qn, (putB qn).length, true) := fun m => getB_putB qn (by omega) m
  have t1 : ∀ m, textOf (textB (strB k) ++ m) = (strB k, (textB (strB k)).length, true) := fun m => textOf_textB _ m (by rw [strB_length]; omega)
  have t2 : ∀ m, textOf (textB (strB v) ++ m) = (strB v, (textB (strB v)).length, true) := fun m => textOf_textB _ m (by rw [strB_length]; omega)
  have d1 : ∀ m, (putB qn ++ m).drop (putB qn).length = m := fun m => List.drop_left
  have d2 : ∀ m, (putB qn ++ (textB (strB k) ++ m)).drop ((putB qn).length + (textB (strB k)).length) = m := fun m => by
    rw [← List.append_assoc, ← List.length_append]; exact List.drop_left
  rw [bytesB, h]
  cases d with
  | true =>
    simp only [if_true, headB, List.cons_append, List.append_assoc, readOf]
    have e0 : (⟨k, v, true, (qn : Int)⟩ : E).seq.toNat = qn := rfl
    rw [e0, if_neg (by decide), g1]
    simp only
    rw [if_neg (by simp), d1, t1]
    simp only
    rw [if_neg (by simp), if_pos (by decide), hq, ← str_mk, hdel rfl]
    simp only [List.length_cons, List.length_append]
    congr 2
    omega
  | false =>
    simp only [if_true, headB, List.cons_append, List.append_assoc, readOf, Bool.false_eq_true, if_false]
    have e0 : (⟨k, v, false, (qn : Int)⟩ : E).seq.toNat = qn := rfl
    rw [e0, if_neg (by decide), g1]
    simp only
    rw [if_neg (by simp), d1, t1]
    simp only
    rw [if_neg (by simp), if_neg (by decide), d2, t2]
    simp only
    rw [if_neg (by simp), hq, ← str_mk, ← str_mk]
    simp only [List.length_cons, List.length_append]
    congr 2
    omega
theorem parse_bytes (e : E) (h : rightB e = true) (more : List UInt8) : parseOf (bytesB e ++ more) = some (e, (bytesB e).length) := by
  rw [parseOf, read_bytes e h more]; simp [h]
theorem bytesB_pos (e : E) (h : rightB e = true) : 1 ≤ (bytesB e).length := by
  rw [bytesB, h]
  simp only [if_true, headB, List.cons_append]
  split <;> simp
theorem bytesB_wrong (e : E) (h : rightB e = false) : bytesB e = [] := by rw [bytesB, h]; rfl
theorem fewS_small (a b most : Nat) (es : List E) (h : Small es) : Small (fewS a b most es) := by
  intro e he
  unfold fewS at he
  simp only [List.mem_map] at he
  obtain ⟨x, hx, rfl⟩ := he
  have := h x (List.mem_of_mem_take hx)
  refine ⟨?_, ?_⟩
  · show (x.key.extract 0 (min x.key.size a)).size ≤ _
    rw [ByteArray.size_extract]; omega
  · show (x.value.extract 0 (min x.value.size b)).size ≤ _
    rw [ByteArray.size_extract]; omega
set_option maxRecDepth 100000 in
set_option maxHeartbeats 4000000 in
theorem row_walk (ao : Option Addr) (n c : Nat) (es : List E) (w : World) (hE : EntsV w ao n es) (hsm : Small es) (hnc : n ≤ c) (hc : c ≤ 9223372036854775807) :
    Calls Try.prog 9 #[.slice ao n c] w fun e w' => e = .returned (.bool true) ∧ Below w.heap.size w w' := by
  go_enter Try.func9, Try.ntmps9
  go_wp2_with fail
  refine (shown_any w).mono ?_
  rintro e w1 ⟨rfl, hb1⟩
  go_wp2_with fail
  refine (few_any ao n c 40 es w1 (hE.below hb1 (Nat.le_refl _)) hsm (by omega) (by omega)).mono ?_
  rintro e w2 ⟨v2, rfl, hown2, hb2⟩
  have hl2 := fewS_len 200 1100 40 es
  have hs2 := fewS_small 200 1100 40 es hsm
  obtain ⟨fs, HF⟩ : ∃ fs, Hid (fewS 200 1100 40 es = fs) := ⟨_, rfl⟩
  rw [HF.out] at hown2 hl2 hs2
  obtain ⟨ao2, c2, rfl, hE2⟩ := own_entsV hown2 rfl
  have hB2 : Below w.heap.size w w2 := hb1.trans (hb2.mono hb1.size)
  clear hown2 hb1 hb2 hE hsm
  obtain ⟨l, HL⟩ : ∃ l, Hid (fs.length = l) := ⟨_, rfl⟩
  have h40 : l ≤ 40 := by rw [← HL.out]; omega
  rw [HL.out] at hE2
  rw [HL.out]
  have HE2 : Hid _ := hE2
  have HB2 : Hid _ := hB2
  have HS2 : Hid _ := hs2
  clear hl2 hE2 hB2 hs2
  go_wp2
  go_loopw [4, 5] (fun o x wr => ∃ i : Nat, x = .int .i64 i ∧ i ≤ l ∧ wr.ownsRow w2.heap.size 5 1 o (rowB (fs.take i)).length (cellsOf (rowB (fs.take i))) ∧ Below w2.heap.size w2 wr) (fun _ x _ => l - (intOf x).toNat)
  case atStart => exact ⟨0, rfl, by omega, World.ownsRow_nil _ _ _ _, Below.refl _ _⟩
  case round =>
    obtain ⟨i, rfl, hil, hown, hbel⟩ := hrel
    by_cases hlt : i < l
    · have hltz : (i : Int) < (l : Int) := by omega
      obtain ⟨b, off, hao, hEn⟩ := HE2.out.2 (by omega)
      have hEr : Ents wr b off fs := hEn.below hbel (Nat.le_refl _)
      obtain ⟨k0, v0, d0, q0, HX⟩ : ∃ k0 v0 d0 q0, Hid (fs[i]! = E.mk k0 v0 d0 q0) := ⟨_, _, _, _, rfl⟩
      obtain ⟨c0, c1, c2', c3⟩ := ents_four hEr i (by rw [HL.out]; omega) HX.out
      obtain ⟨s0, s1⟩ := small_at HS2.out i (by rw [HL.out]; omega) HX.out
      subst hao
      have HSN : Hid (rowB (fs.take (i + 1)) = rowB (fs.take i) ++ bytesB ⟨k0, v0, d0, q0⟩) := by
        show _ = _
        rw [take_snoc fs i (by rw [HL.out]; omega), rowB_snoc, HX.out]
      have hlen := rowB_len (fs.take i)
      rw [List.length_take] at hlen
      obtain ⟨done, HD⟩ : ∃ done, Hid (rowB (fs.take i) = done) := ⟨_, rfl⟩
      rw [HD.out] at hown hlen
      have hlD : done.length ≤ 48000 := by omega
      have hlN := bytesB_len ⟨k0, v0, d0, q0⟩
      have HCB : Hid _ := fun w => bytes_any k0 v0 d0 q0 w s0 s1
      obtain ⟨nb, HNB⟩ : ∃ nb, Hid (bytesB ⟨k0, v0, d0, q0⟩ = nb) := ⟨_, rfl⟩
      rw [HNB.out] at hlN
      have HO : Hid _ := And.intro hown hbel
      clear hEr hEn hown hbel hlen s0 s1
      go_wp2_with fail
      refine (HCB.out _).mono ?_
      rintro e w5 ⟨v5, rfl, hown5, hb5⟩
      rw [HNB.out] at hown5
      obtain ⟨ao5, c5, rfl, hby5, h05, -, -, -, -⟩ := own_bytes hown5
      have HO5 : Hid (w5.ownsRow w2.heap.size 5 1 u4 done.length (cellsOf done)) := own_below HO.out.1 hb5 (Nat.le_refl _)
      have HB5 : Hid (Below w2.heap.size w2 w5) := HO.out.2.trans (hb5.mono HO.out.2.size)
      have HY5 : Hid _ := And.intro hby5 h05
      clear hown5 hby5 h05 hb5 c0 c1 c2' c3
      go_wp2_with (at_builtin; refine wpList_append_bytes _ rfl (.tmp 19) (.tmp 24) rfl w2.heap.size _ _ done rfl HO5.out HB5.out.size ao5 _ c5 nb rfl HY5.out.1 HY5.out.2 (by omega) ?_)
      intro v6 w6 hown6 hb6
      have HN : Hid _ := And.intro hown6 (HB5.out.trans hb6)
      clear hown6 hb6
      go_wp2
      go_roundw
      case rel => exact ⟨i + 1, by go_num, by omega, by rw [HSN.out, HD.out, HNB.out, List.length_append]; exact HN.out.1, HN.out.2⟩
      case measure => simp [intOf]; omega
    · have hltz : ¬ (i : Int) < (l : Int) := by omega
      have hti : fs.take i = fs := List.take_of_length_le (by rw [HL.out]; omega)
      rw [hti] at hown
      have hrl := rowB_len fs
      rw [HL.out] at hrl
      obtain ⟨ao3, c3, hv3, hby3, h03, hlc3, hcm3, -, -⟩ := own_bytes hown
      unfold maxLen at hcm3
      subst hv3
      obtain ⟨wa, rfl⟩ : ∃ wa, wa = wr := ⟨_, rfl⟩
      have HBW : Hid _ := hbel
      have HBY : Hid (Bytes wa ao3 (rowB fs).length (rowB (fs.drop 0))) := hby3
      clear hown hbel hti hby3 h03
      obtain ⟨m0, HM0⟩ : ∃ m, Hid ((rowB fs).length = m) := ⟨_, rfl⟩
      rw [HM0.out] at hlc3 hrl HBY ⊢
      go_wp2
      go_loopw [4, 6, 7, 8, 9] (fun s4 x _ _ _ wx => ∃ (i m c : Nat) (ao : Option Addr), x = .int .i64 i ∧ i ≤ l ∧ s4 = .slice ao m c ∧ m ≤ c ∧ c ≤ 9223372036854775807 ∧ Hid (Bytes wx ao m (rowB (fs.drop i))) ∧ Hid (Below wa.heap.size wa wx)) (fun _ x _ _ _ _ => l - (intOf x).toNat)
      case atStart => exact ⟨0, m0, c3, ao3, rfl, by omega, rfl, hlc3, by omega, HBY, Below.refl _ _⟩
      case round =>
        clear HBY
        obtain ⟨i, m, c, ao, rfl, hil2, rfl, hmc, hc2, HB, HW⟩ := hrel
        by_cases hlt2 : i < l
        · have hltz2 : (i : Int) < (l : Int) := by omega
          obtain ⟨b, off, hao, hEn⟩ := HE2.out.2 (by omega)
          have hEx : Ents wr b off fs := hEn.below (HBW.out.trans (HW.out.mono HBW.out.size)) (Nat.le_refl _)
          obtain ⟨k0, v0, d0, q0, HX⟩ : ∃ k0 v0 d0 q0, Hid (fs[i]! = E.mk k0 v0 d0 q0) := ⟨_, _, _, _, rfl⟩
          obtain ⟨e0, e1, e2, e3⟩ := ents_four hEx i (by rw [HL.out]; omega) HX.out
          obtain ⟨s0, s1⟩ := small_at HS2.out i (by rw [HL.out]; omega) HX.out
          subst hao
          have HDR : Hid (rowB (fs.drop i) = bytesB ⟨k0, v0, d0, q0⟩ ++ rowB (fs.drop (i + 1))) := by
            show _ = _
            rw [List.drop_eq_getElem_cons (by rw [HL.out]; omega), rowB_cons]
            have := HX.out
            rw [getElem!_pos fs i (by rw [HL.out]; omega)] at this
            rw [this]
          obtain ⟨r, HR⟩ : ∃ r, Hid (rightB ⟨k0, v0, d0, q0⟩ = r) := ⟨_, rfl⟩
          have CR := fun w => right_any k0 v0 d0 q0 w s0 s1
          rw [HR.out] at CR
          have HCR : Hid _ := CR
          have HEX : Hid _ := hEx
          clear hEx hEn CR s0 s1
          go_wp2_with fail
          refine (HCR.out _).mono ?_
          rintro e w7 ⟨rfl, hb7⟩
          cases r with
          | false =>
            have HZ : Hid (Bytes w7 ao m (rowB (fs.drop (i + 1)))) := by
              have := bytes_kept HB.out hb7 (Nat.le_refl _)
              rw [HDR.out, bytesB_wrong _ HR.out, List.nil_append] at this
              exact this
            have HW7 : Hid (Below wa.heap.size wa w7) := HW.out.trans (hb7.mono HW.out.size)
            clear hb7 e0 e1 e2 e3
            go_wp2
            go_roundw
            case rel => exact ⟨i + 1, m, c, ao, by go_num, by omega, rfl, hmc, hc2, HZ, HW7⟩
            case measure => simp [intOf]; omega
          | true =>
            have hpos := bytesB_pos _ HR.out
            have CP := parse_any ao m c (rowB (fs.drop i)) w7 (bytes_kept HB.out hb7 (Nat.le_refl _)) hmc hc2
            rw [HDR.out, parse_bytes _ HR.out] at CP
            have HCP : Hid _ := CP
            have hml : (bytesB ⟨k0, v0, d0, q0⟩).length ≤ m := by
              have := HB.out.1
              rw [HDR.out, List.length_append] at this
              omega
            obtain ⟨t, HT⟩ : ∃ t, Hid ((bytesB ⟨k0, v0, d0, q0⟩).length = t) := ⟨_, rfl⟩
            rw [HT.out] at hpos hml
            have HB7 : Hid _ := hb7
            clear hb7 CP e0 e1 e2 e3
            go_wp2_with fail
            refine Calls.mono HCP.out ?_
            rintro e w8 ⟨rfl, hb8⟩
            have hB8 : Below wr.heap.size wr w8 := HB7.out.trans (hb8.mono HB7.out.size)
            obtain ⟨e0, e1, e2, e3⟩ := ents_four (Ents.below HEX.out hB8 (Nat.le_refl _)) i (by rw [HL.out]; omega) HX.out
            have HB8 : Hid _ := hB8
            have hby8 := bytes_kept HB.out hB8 (Nat.le_refl _)
            clear hb8 hB8
            simp only [parseV, encE]
            rw [HT.out]
            have heq := fun w => equal23 k0 v0 d0 q0 k0 v0 d0 q0 w
            rw [decide_eq_true rfl] at heq
            have hg := guard23
            obtain ⟨x, hx, hc8⟩ := hby8.2 0 ((bytesB ⟨k0, v0, d0, q0⟩ ++ rowB (fs.drop (i + 1)))[0]'(by rw [List.length_append, HT.out]; omega)) (by rw [HDR.out]; exact List.getElem?_eq_getElem _)
            subst hx
            obtain ⟨gb, goff, gspot⟩ := x
            have hspot : gspot = none := by simpa [Addr.add] using World.cell?_spot hc8
            subst hspot
            have HBY8 : Hid (Bytes w8 (some ⟨gb, goff + t, none⟩) (m - t) (rowB (fs.drop (i + 1)))) := by
              have h1 := bytes_drop hby8 t
              rw [HDR.out, ← HT.out, List.drop_left, HT.out] at h1
              exact h1
            clear hc8 hby8
            have htz : ¬ (t : Int) < 1 := by omega
            have htm : ¬ (m : Int) < (t : Int) := by omega
            have htm2 : (t : Int) ≤ (m : Int) := by omega
            have htc : (t : Int) ≤ (c : Int) := by omega
            have hE8 : Hid (∀ o, (w8.alloc o).cell? ⟨b, off + i * 4, none⟩ = some (.string k0) ∧ (w8.alloc o).cell? ⟨b, off + i * 4 + 1, none⟩ = some (.string v0) ∧ (w8.alloc o).cell? ⟨b, off + i * 4 + 2, none⟩ = some (.bool d0) ∧ (w8.alloc o).cell? ⟨b, off + i * 4 + 3, none⟩ = some (.int .i64 q0)) := fun o =>
              ⟨bel_cell (bel_alloc w8 o) (Nat.le_refl _) e0, bel_cell (bel_alloc w8 o) (Nat.le_refl _) e1, bel_cell (bel_alloc w8 o) (Nat.le_refl _) e2, bel_cell (bel_alloc w8 o) (Nat.le_refl _) e3⟩
            clear e0 e1 e2 e3
            go_wp2_with fail
            obtain ⟨w9, HW9⟩ : ∃ w9, Hid (w9 = w8.alloc (Obj.cells #[.string k0, .string v0, .bool d0, .int .i64 q0] 23)) := ⟨_, rfl⟩
            have hblk9 : w9.heap[w8.heap.size]? = some (Obj.cells #[.string k0, .string v0, .bool d0, .int .i64 q0] 23) := by rw [HW9.out, heap_alloc_get, if_pos rfl]
            have g0 : w9.cell? ⟨w8.heap.size, 0, none⟩ = some (.string k0) := by rw [cell_of_row _ _ _ _ _ _ hblk9]; rfl
            have g1 : w9.cell? ⟨w8.heap.size, 1, none⟩ = some (.string v0) := by rw [cell_of_row _ _ _ _ _ _ hblk9]; rfl
            have g2 : w9.cell? ⟨w8.heap.size, 2, none⟩ = some (.bool d0) := by rw [cell_of_row _ _ _ _ _ _ hblk9]; rfl
            have g3 : w9.cell? ⟨w8.heap.size, 3, none⟩ = some (.int .i64 q0) := by rw [cell_of_row _ _ _ _ _ _ hblk9]; rfl
            obtain ⟨e0, e1, e2, e3⟩ := hE8.out (Obj.cells #[.string k0, .string v0, .bool d0, .int .i64 q0] 23)
            rw [← HW9.out] at e0 e1 e2 e3
            have HBL9 : Hid (Below w8.heap.size w8 w9) := by show Below _ _ _; rw [HW9.out]; exact bel_alloc _ _
            rw [← HW9.out]
            clear hblk9 hE8
            go_quiet (fail)
            have HB10 : Hid (Below w8.heap.size w8 (w9.drewN nq)) := bel_drewN HBL9.out nq
            have HW10 : Hid (Below wa.heap.size wa (w9.drewN nq)) := HW.out.trans ((HB8.out.trans (HB10.out.mono HB8.out.size)).mono HW.out.size)
            clear g0 g1 g2 g3 e0 e1 e2 e3 heq hg
            generalize w9.drewN nq = w10 at HB10 HW10 ⊢
            by_cases htc2 : t < c
            · have htc3 : (t : Int) < (c : Int) := by omega
              have HZ : Hid (Bytes w10 (some ⟨gb, goff + t, none⟩) (m - t) (rowB (fs.drop (i + 1)))) := bytes_kept HBY8.out HB10.out (Nat.le_refl _)
              go_wp2
              go_roundw
              case rel => exact ⟨i + 1, m - t, c - t, _, by go_num, by omega, rfl, by omega, by omega, HZ, HW10⟩
              case measure => simp [intOf]; omega
            · have hct : c = t := by omega
              have hmt : m = t := by omega
              have HZ : Hid (Bytes w10 (some ⟨gb, goff, none⟩) 0 (rowB (fs.drop (i + 1)))) := by
                have h1 := HBY8.out.1
                have h2 : rowB (fs.drop (i + 1)) = [] := List.eq_nil_of_length_eq_zero (by omega)
                rw [h2]
                exact ⟨rfl, fun i c hi => by simp at hi⟩
              have HCT : Hid _ := And.intro hct hmt
              clear hct hmt htc2
              obtain ⟨hct, hmt⟩ := HCT.out
              subst hmt
              subst hct
              go_wp2
              go_roundw
              case rel => exact ⟨i + 1, 0, 0, _, by go_num, by omega, rfl, by omega, by omega, HZ, HW10⟩
              case measure => simp [intOf]; omega
        · have hltz2 : ¬ (i : Int) < (l : Int) := by omega
          have hm0 : m = 0 := by
            have h1 := HB.out.1
            rw [List.drop_eq_nil_of_le (by rw [HL.out]; omega)] at h1
            simpa [rowB] using h1.symm
          have HZ : Hid _ := HB2.out.trans ((HBW.out.trans (HW.out.mono HBW.out.size)).mono HB2.out.size)
          subst hm0
          go_wp2
          go_ret
          exact ⟨rfl, HZ.out⟩
end Go.Proofs.Yteemfhhhdhddhaa

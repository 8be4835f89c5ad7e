/-
  What the document's reader of entries answers: a contract over this translation.
-/
import Derived.Test.YtcgjhopfdpaocaaDoorRefPM
import Derived.Test.YtcgjhopfdpaocaaDoorPartBA
import Derived.Test.YtcgjhopfdpaocaaDoorPartBB
namespace Go.Proofs.YtcgjhopfdpaocaaDoor
open Go.RowKit Go.Sort Go.Shelf
set_option linter.unusedSectionVars false
variable [Inhabited E] [DecidableEq E]
def strLen : Value → Nat | .string s => s.size | _ => 0
def EntrSays (body : List UInt8) (e : Ending) (w' : World) : Prop :=
  (e = .returned (.tuple #[.slice none 0 0, .bool false]) ∧ ∀ l0, fitB l0 = true → bodyB l0 l0.length ≠ body) ∨
  ∃ l ao c, e = .returned (.tuple #[.slice ao l.length c, .bool true]) ∧ EntsV w' ao l.length l ∧ Small l ∧ l.length ≤ 65 ∧ l.length ≤ c ∧ c ≤ 9223372036854775807 ∧ ∀ l0, fitB l0 = true → bodyB l0 l0.length = body → l0 = l
theorem str_ne {s : ByteArray} (h : 0 < s.size) : strB s ≠ [] := fun h0 => by have := strB_length s; rw [h0] at this; simp at this; omega
theorem str_nil {s : ByteArray} (h : ¬ 0 < s.size) : strB s = [] := List.eq_nil_of_length_eq_zero (by rw [strB_length]; omega)
theorem isEmpty_no {s : ByteArray} (h : 0 < s.size) : s.toList.isEmpty = false := by
  rw [ByteArray.toList_eq]
  have := str_ne h
  unfold strB at this
  cases hh : s.data.toList with
  | nil => exact absurd hh this
  | cons a b => rfl
theorem isEmpty_yes {s : ByteArray} (h : ¬ 0 < s.size) : s.toList.isEmpty = true := by
  rw [ByteArray.toList_eq]
  have := str_nil h
  unfold strB at this
  rw [this]; rfl
theorem gt64 {n : Nat} (h : n ≤ 64) : (n : Int) ≤ 64 := by omega
theorem lens7 {sh bf s m : Nat} (h1 : sh ≤ bf) (h2 : bf ≤ 10000 * m) (hm : m ≤ 64) (hs : s ≤ 10000) : sh + s ≤ 10000 * (m + 1) ∧ sh + s ≤ 1000000 ∧ ¬ (9223372036854775807 < min sh bf + s) := by omega
theorem small_of {l : List E} (h : ∀ e ∈ l, e.key.size ≤ 1000000 ∧ e.value.size ≤ 1000000) : Small l := fun e he => by have := h e he; omega
theorem le_z {a b : Nat} (h : a ≤ b) : (a : Int) ≤ (b : Int) := by omega
theorem wrap_small {q : Nat} (h : ¬ 1099511627776 < q) : wrap64 (q : Int) = q := by unfold wrap64; omega
theorem wrap_sh {sh bf m : Nat} (h : ¬ bf < sh) (hb : bf ≤ 10000 * m) (hm : m ≤ 64) : wrap64 (sh : Int) = sh ∧ (sh : Int) ≤ (bf : Int) := by unfold wrap64; omega
theorem add3_z {a b c : Nat} (h : a + b < c) : (a : Int) + (b : Int) + 1 ≤ (c : Int) := by omega
theorem big_no {q : Nat} (h : ¬ 1099511627776 < q) : (¬ (1099511627776 : Int) < (q : Int)) ∧ decide ((1099511627776 : Int) < (q : Int)) = false ∧ decide (1099511627776 < q) = false := by simp; omega
theorem big_yes {q : Nat} (h : 1099511627776 < q) : (1099511627776 : Int) < (q : Int) := by omega
theorem one_no {q : Nat} (h : ¬ 1 < q) : (¬ (1 : Int) < (q : Int)) ∧ decide ((1 : Int) < (q : Int)) = false ∧ decide (1 < q) = false := by simp; omega
theorem one_yes {q : Nat} (h : 1 < q) : (1 : Int) < (q : Int) := by omega
theorem eq_one (t : Nat) : ((t : Int) == 1) = decide (t = 1) := by
  by_cases h : t = 1
  · simp [h]
  · simp only [h, decide_false, beq_eq_false_iff_ne, ne_eq]; omega
theorem ge_no {a b c : Nat} (h : a + b < c) : (¬ (c : Int) ≤ (a : Int) + (b : Int)) ∧ decide ((c : Int) ≤ (a : Int) + (b : Int)) = false := by simp; omega
theorem ge_yes {a b c : Nat} (h : ¬ a + b < c) : (c : Int) ≤ (a : Int) + (b : Int) ∧ c ≤ a + b := by omega
theorem sub_small {c a : Nat} (hc : c ≤ 10000) : c - a ≤ 9223372036854775807 := by omega
theorem sub_lt3 {c a k n : Nat} (h : a < c) : c - (a + 1) - k - n < c := by omega
theorem sub_lt2 {c a k : Nat} (h : a < c) : c - (a + 1) - k < c := by omega
theorem val_small {v z c a k : Nat} (h1 : v ≤ z) (h2 : z = c - (a + 1) - k) (hc : c ≤ 10000) : v ≤ 10000 := by omega
theorem wrapu_bf {bf m : Nat} (hb : bf ≤ 10000 * m) (hm : m ≤ 65) : IntKind.u64.wrap (bf : Int) = bf := by rw [IntKind.wrap_u64]; omega
theorem nlt_all {bf sh : Nat} (h : ¬ bf < sh) : (¬ (bf : Int) < (sh : Int)) ∧ decide ((bf : Int) < (sh : Int)) = false ∧ decide (bf < sh) = false := by simp; omega
theorem from_len (s : ByteArray) (k : Nat) (hk : k ≤ s.size) : (s.extract k s.size).size = s.size - k := by rw [ByteArray.size_extract]; omega
set_option maxRecDepth 100000 in
set_option maxHeartbeats 4000000 in
theorem refEntries_any (s : ByteArray) (w : World) (hs : s.size ≤ 10000) :
    Calls Tryd.prog 72 #[.string s] w fun e w' => Below w.heap.size w w' ∧ EntrSays (strB s) e w' := by
  obtain ⟨body, HBO⟩ : ∃ b, Hid (strB s = b) := ⟨_, rfl⟩
  rw [HBO.out]
  go_enter Tryd.func72, Tryd.ntmps72
  go_wp2_with fail
  go_loopw [0, 4, 5, 6, 7, 8, 9, 10, 11, 12, 13, 14, 15, 16, 17, 18, 19] (fun s0 s4 s5 _ _ _ _ _ _ _ _ _ _ _ _ _ _ wr => ∃ (cur : ByteArray) (l : List E), s0 = .string cur ∧ s5 = .string (lastK l l.length) ∧ cur.size ≤ 10000 ∧ l.length ≤ 65 ∧ Hid (RInv body l (strB cur)) ∧ Hid (wr.ownsRow w.heap.size 51 4 s4 l.length (flatE l)) ∧ Hid ((lastK l l.length).size ≤ 10000 * l.length ∧ ∀ e ∈ l, e.key.size ≤ 1000000 ∧ e.value.size ≤ 1000000) ∧ Hid (Below w.heap.size w wr)) (fun s0 _ _ _ _ _ _ _ _ _ _ _ _ _ _ _ _ _ => strLen s0)
  case atStart =>
    exact ⟨s, [], rfl, rfl, hs, Nat.zero_le _, (by show RInv _ _ _; rw [HBO.out]; exact rinv_nil _), World.ownsRow_nil _ _ _ _, ⟨Nat.zero_le _, fun e he => by cases he⟩, Below.refl _ _⟩
  case round =>
    obtain ⟨cur, l, rfl, rfl, hcs, hl65, HRI, HOW, HSZ, HBE⟩ := hrel
    obtain ⟨aoL, cL, rfl, hEV, hlc, hcc⟩ := own_caps HOW.out
    have HEV : Hid (EntsV wr aoL l.length l) := hEV
    obtain ⟨L, HLL⟩ : ∃ L, Hid (l.length = L) := ⟨_, rfl⟩
    obtain ⟨bf, HBF⟩ : ∃ b, Hid (lastK l l.length = b) := ⟨_, rfl⟩
    rw [HBF.out] at HSZ ⊢
    rw [HLL.out] at HOW HEV hl65 hlc HSZ ⊢
    clear hEV
    by_cases hne : 0 < cur.size
    case neg =>
      have hem := isEmpty_yes hne
      have HFI : Hid (∀ l0, fitB l0 = true → bodyB l0 l0.length = body → l0 = l) := by have := HRI.out; rw [str_nil hne] at this; exact rinv_end this
      go_wp2
      go_ret2
      exact ⟨HBE.out, .inr ⟨l, aoL, cL, by rw [HLL.out]; rfl, by rw [HLL.out]; exact HEV.out, small_of HSZ.out.2, by rw [HLL.out]; exact hl65, by rw [HLL.out]; exact hlc, hcc, HFI.out⟩⟩
    case pos =>
    have hem := isEmpty_no hne
    have HNE : Hid (strB cur ≠ []) := str_ne hne
    by_cases h64 : L ≤ 64
    case neg =>
      have h64z : ¬ (L : Int) ≤ 64 := by omega
      have h64d : decide ((L : Int) ≤ 64) = false := by simp; omega
      have HFI : Hid (∀ l0, fitB l0 = true → bodyB l0 l0.length = body → l0 = l) := fun l0 h1 h2 => absurd h2 (rinv_full HRI.out (by rw [HLL.out]; omega) l0 h1)
      go_wp2
      go_ret2
      exact ⟨HBE.out, .inr ⟨l, aoL, cL, by rw [HLL.out]; rfl, by rw [HLL.out]; exact HEV.out, small_of HSZ.out.2, by rw [HLL.out]; exact hl65, by rw [HLL.out]; exact hlc, hcc, HFI.out⟩⟩
    case pos =>
    have h64z := gt64 h64
    have CG := fun W => refGet_any cur W (by omega)
    obtain ⟨⟨sh, n1, ok⟩, HG⟩ : ∃ x, Hid (getB (strB cur) = x) := ⟨_, rfl⟩
    rw [HG.out] at CG
    have HCG : Hid _ := CG
    clear CG
    have HNO : Hid (entR bf (strB cur) = none → ∀ l0, fitB l0 = true → bodyB l0 l0.length ≠ body) := fun h => rinv_none HRI.out HNE.out (by rw [HBF.out]; exact h)
    go_wp2_with fail
    refine (HCG.out _).mono ?_
    rintro e w1 ⟨rfl, rfl⟩
    cases ok with
    | false =>
      have HON : Hid (entR bf (strB cur) = none) := by show _ = _; unfold entR; rw [HG.out]; rfl
      go_wp2
      go_ret2
      exact ⟨HBE.out, .inl ⟨rfl, HNO.out HON.out⟩⟩
    | true =>
    have hn1 : n1 ≤ cur.size := by have := (getB_once _ _ _ HG.out).2.2.1; rw [strB_length] at this; exact this
    have hn1z := le_z hn1
    have hshb := (getB_once _ _ _ HG.out).1
    have hwbf : IntKind.u64.wrap (bf.size : Int) = bf.size := wrapu_bf HSZ.out.1 hl65
    by_cases hsb : bf.size < sh
    case pos =>
      have hsz := lt_z hsb
      have HON : Hid (entR bf (strB cur) = none) := by show _ = _; unfold entR; rw [HG.out]; simp only; rw [if_neg (by simp), if_pos hsb]
      go_wp2
      go_ret2
      exact ⟨HBE.out, .inl ⟨rfl, HNO.out HON.out⟩⟩
    case neg =>
    obtain ⟨hsz, hszd, hszn⟩ := nlt_all hsb
    have HSB : Hid (¬ bf.size < sh) := hsb
    have CT := fun W => refText_any (cur.extract n1 cur.size) W (by rw [from_len _ _ hn1]; exact sub_small hcs)
    rw [strB_from] at CT
    obtain ⟨⟨tx, m, is⟩, HT⟩ : ∃ x, Hid (textOf ((strB cur).drop n1) = x) := ⟨_, rfl⟩
    rw [HT.out] at CT
    have HCT : Hid _ := CT
    clear CT hsb
    go_wp2_with fail
    refine (HCT.out _).mono ?_
    rintro e w1 ⟨rfl, rfl⟩
    clear HCT HCG hsz hszd hszn hem h64z
    cases is with
    | false =>
      have HON : Hid (entR bf (strB cur) = none) := by show _ = _; unfold entR; rw [HG.out]; simp only; rw [if_neg (by simp), if_neg HSB.out, HT.out]; rfl
      go_wp2
      go_ret2
      exact ⟨HBE.out, .inl ⟨rfl, HNO.out HON.out⟩⟩
    | true =>
    obtain ⟨htx, htm⟩ := textOf_len2 HT.out
    rw [List.length_drop, strB_length] at htx htm
    have HER : Hid (entR bf (strB cur) = match (strB cur).drop (n1 + m) with
        | [] => none
        | t :: r => if 1 < t.toNat then none else if (getB r).2.2 = false then none else if 1099511627776 < (getB r).1 then none else
          if t.toNat = 1 then some (⟨keyE bf sh tx, ⟨#[]⟩, true, ((getB r).1 : Int)⟩, n1 + m + 1 + (getB r).2.1) else
          if (textOf (r.drop (getB r).2.1)).2.2 = false then none else
          some (⟨keyE bf sh tx, bStr (textOf (r.drop (getB r).2.1)).1, false, ((getB r).1 : Int)⟩, n1 + m + 1 + (getB r).2.1 + (textOf (r.drop (getB r).2.1)).2.1)) := by
      show _ = _
      unfold entR
      rw [HG.out]
      simp only
      rw [if_neg (by simp), if_neg HSB.out, HT.out]
      simp only
      rw [if_neg (by simp)]
      rfl
    by_cases hend : n1 + m < cur.size
    case neg =>
      have hez := (ge_yes hend).1
      have HON : Hid (entR bf (strB cur) = none) := by show _ = _; rw [HER.out, List.drop_eq_nil_of_le (by rw [strB_length]; exact (ge_yes hend).2)]
      go_wp2
      go_ret2
      exact ⟨HBE.out, .inl ⟨rfl, HNO.out HON.out⟩⟩
    case pos =>
    obtain ⟨hez, hezd⟩ := ge_no hend
    obtain ⟨t, r, HTR⟩ : ∃ t r, Hid ((strB cur).drop (n1 + m) = t :: r) := ⟨_, _, str_drop cur (n1 + m) hend⟩
    rw [HTR.out] at HER
    simp only at HER
    have HDR : Hid ((strB cur).drop (n1 + m + 1) = r) := by show _ = _; rw [← List.drop_drop, HTR.out]; rfl
    have HIX : Hid (∀ W, (Instr.index 9 (.string cur) (.int .i64 ((n1 + m : Nat) : Int))).run Tryd.prog W = .ok (.int .u8 (t.toNat : Int)) W) := fun W => by
      have h1 := run_index_at cur (n1 + m) hend W
      have h2 := str_drop cur (n1 + m) hend
      rw [HTR.out] at h2
      injection h2 with h3 _
      rw [h3]
      exact h1
    have hix : ∀ W, (Instr.index 9 (.string cur) (.int .i64 ((n1 : Int) + (m : Int)))).run Tryd.prog W = .ok (.int .u8 (t.toNat : Int)) W := HIX.out
    by_cases ht : 1 < t.toNat
    case pos =>
      have htz := one_yes ht
      have HON : Hid (entR bf (strB cur) = none) := by show _ = _; rw [HER.out, if_pos ht]
      go_wp2
      go_ret2
      exact ⟨HBE.out, .inl ⟨rfl, HNO.out HON.out⟩⟩
    case neg =>
    obtain ⟨htz, htd, htn⟩ := one_no ht
    rw [if_neg ht] at HER
    obtain ⟨d, HD⟩ : ∃ d, Hid (decide (t.toNat = 1) = d) := ⟨_, rfl⟩
    have hdz : ((t.toNat : Int) == 1) = d := (eq_one _).trans HD.out
    have CG := fun W => refGet_any (cur.extract (n1 + m + 1) cur.size) W (by rw [from_len _ _ hend]; exact sub_small hcs)
    rw [strB_from, HDR.out] at CG
    obtain ⟨⟨q, k, ok3⟩, HG3⟩ : ∃ x, Hid (getB r = x) := ⟨_, rfl⟩
    rw [HG3.out] at CG HER
    simp only at HER
    have HCG : Hid _ := CG
    have hsl := add3_z hend
    clear CG ht
    go_wp2_with fail
    refine (HCG.out _).mono ?_
    rintro e w1 ⟨rfl, rfl⟩
    clear HCG hez hezd htz htd htn hix hdz
    cases ok3 with
    | false =>
      have HON : Hid (entR bf (strB cur) = none) := by show _ = _; rw [HER.out]; rfl
      go_wp2
      go_ret2
      exact ⟨HBE.out, .inl ⟨rfl, HNO.out HON.out⟩⟩
    | true =>
    rw [if_neg (by simp)] at HER
    have hq := (getB_once _ _ _ HG3.out).1
    by_cases hbig : 1099511627776 < q
    case pos =>
      have hbz := big_yes hbig
      have HON : Hid (entR bf (strB cur) = none) := by show _ = _; rw [HER.out, if_pos hbig]
      go_wp2
      go_ret2
      exact ⟨HBE.out, .inl ⟨rfl, HNO.out HON.out⟩⟩
    case neg =>
    obtain ⟨hbz, hbd, hbn⟩ := big_no hbig
    rw [if_neg hbig] at HER
    have hkl : k ≤ cur.size - (n1 + m + 1) := by
      have := (getB_once _ _ _ HG3.out).2.2.1
      rw [← HDR.out, List.length_drop, strB_length] at this
      exact this
    have hwq := wrap_small hbig
    obtain ⟨hwsh, hshz⟩ := wrap_sh HSB.out HSZ.out.1 h64
    have HLN : Hid _ := lens7 (Nat.le_of_not_lt HSB.out) HSZ.out.1 h64 (Nat.le_trans htx (Nat.le_trans (Nat.sub_le _ _) hcs))
    have hcat : ¬ (9223372036854775807 < min sh bf.size + tx.length) := HLN.out.2.2
    have hkz := le_z hkl
    have hsz2 := from_len cur (n1 + m + 1) hend
    obtain ⟨x, HX⟩ : ∃ x, Hid (keyE bf sh tx = x) := ⟨_, rfl⟩
    have hkx : bf.extract 0 sh ++ ⟨tx.toArray⟩ = x := by rw [extract_key]; exact HX.out
    rw [HX.out] at HER
    have HXS : Hid (x.size ≤ 10000 * (L + 1) ∧ x.size ≤ 1000000) := by
      have h1 : x.size ≤ sh + tx.length := by rw [← HX.out, ← strB_length, strB_keyE, List.length_append, List.length_take]; exact Nat.add_le_add_right (Nat.min_le_left _ _) _
      exact ⟨Nat.le_trans h1 HLN.out.1, Nat.le_trans h1 HLN.out.2.1⟩
    have HC2 : Hid (strB ((cur.extract (n1 + m + 1) cur.size).extract k (cur.size - (n1 + m + 1))) = (strB cur).drop (n1 + m + 1 + k) ∧ ((cur.extract (n1 + m + 1) cur.size).extract k (cur.size - (n1 + m + 1))).size = cur.size - (n1 + m + 1) - k) := by
      rw [← hsz2]
      refine ⟨by rw [strB_from, strB_from, List.drop_drop], ?_⟩
      rw [from_len _ _ (by rw [hsz2]; exact hkl)]
    have HEND : Hid (n1 + m < cur.size) := hend
    have HCS : Hid (cur.size ≤ 10000) := hcs
    have H64 : Hid (L ≤ 64) := h64
    clear hend hcs h64 hl65 hshb hn1 htx htm hq hkl hlc hcc hne hbig hn1z hwbf hsl
    go_upto_if 106 with fail
    obtain ⟨c2, HCE2⟩ : ∃ c, Hid ((cur.extract (n1 + m + 1) cur.size).extract k (cur.size - (n1 + m + 1)) = c) := ⟨_, rfl⟩
    rw [HCE2.out] at HC2 ⊢
    clear hbz hbd hbn hwq hwsh hshz hcat hkz hkx hsz2
    go_cut [0, 17, 18, 19] (fun s0 _ _ _ wx => ∃ (c3 val : ByteArray) (kk : Nat), s0 = .string c3 ∧ Hid (strB c3 = (strB cur).drop kk) ∧ c3.size < cur.size ∧ val.size ≤ 10000 ∧ Hid (wx.heap[w1.heap.size]? = some (.cells #[.string x, .string val, .bool d, .int .i64 (q : Int)] 51 (0, 0))) ∧ Hid (Below w1.heap.size w1 wx) ∧ Hid (entR bf (strB cur) = some (⟨x, val, d, (q : Int)⟩, kk)))
    case first =>
      cases d with
      | true =>
        have ht1 : t.toNat = 1 := of_decide_eq_true HD.out
        have HON : Hid (entR bf (strB cur) = some (⟨x, ⟨#[]⟩, true, (q : Int)⟩, n1 + m + 1 + k)) := by show _ = _; rw [HER.out, if_pos ht1]
        clear ht1
        go_wp2
        go_meet
        case rel => exact ⟨c2, ⟨#[]⟩, n1 + m + 1 + k, rfl, HC2.out.1, by rw [HC2.out.2]; exact sub_lt2 HEND.out, Nat.zero_le _, heap_alloc_new w1 _, bel_alloc w1 _, HON⟩
      | false =>
        have ht1 : ¬ t.toNat = 1 := of_decide_eq_false HD.out
        have HE2 : Hid _ := HER.out
        rw [if_neg ht1] at HE2
        have CT := fun W => refText_any c2 W (by rw [HC2.out.2, Nat.sub_sub]; exact sub_small HCS.out)
        have HDK : Hid (strB c2 = r.drop k) := by show _ = _; rw [HC2.out.1, ← List.drop_drop, HDR.out]
        rw [HDK.out] at CT
        obtain ⟨⟨vv, n4, ok4⟩, HT4⟩ : ∃ x, Hid (textOf (r.drop k) = x) := ⟨_, rfl⟩
        rw [HT4.out] at CT HE2
        simp only at HE2
        have HCT : Hid _ := CT
        clear CT ht1
        cases ok4 with
        | false =>
          have HON : Hid (entR bf (strB cur) = none) := by show _ = _; rw [HE2.out]; rfl
          go_wp2_with fail
          refine (HCT.out _).mono ?_
          rintro e w2 ⟨rfl, rfl⟩
          go_wp2
          go_ret2
          exact ⟨HBE.out.trans ((bel_alloc w1 _).mono HBE.out.size), .inl ⟨rfl, HNO.out HON.out⟩⟩
        | true =>
          have HON : Hid (entR bf (strB cur) = some (⟨x, bStr vv, false, (q : Int)⟩, n1 + m + 1 + k + n4)) := by show _ = _; rw [HE2.out]; rfl
          obtain ⟨hv4, hn4⟩ := textOf_len2 HT4.out
          rw [← HDK.out, strB_length] at hv4 hn4
          have hn4z := le_z hn4
          have HC3 : Hid (strB (c2.extract n4 c2.size) = (strB cur).drop (n1 + m + 1 + k + n4) ∧ (c2.extract n4 c2.size).size = c2.size - n4) := ⟨by rw [strB_from, HC2.out.1, List.drop_drop], from_len _ _ hn4⟩
          go_wp2_with fail
          refine (HCT.out _).mono ?_
          rintro e w2 ⟨rfl, rfl⟩
          go_wp2
          go_meet
          case rel => exact ⟨c2.extract n4 c2.size, bStr vv, n1 + m + 1 + k + n4, rfl, HC3.out.1, by rw [HC3.out.2, HC2.out.2]; exact sub_lt3 HEND.out, by rw [size_bStr]; exact val_small hv4 HC2.out.2 HCS.out, heap_alloc_new w1 _, bel_alloc w1 _, HON⟩
    case rest =>
      obtain ⟨c3, val, kk, rfl, HSC, hlt3, hval, HBK, HB2, HEN⟩ := hcut
      have k0 : wc.cell? ⟨w1.heap.size, 0, none⟩ = some (.string x) := by simp [World.cell?, HBK.out]
      have k1 : wc.cell? ⟨w1.heap.size, 1, none⟩ = some (.string val) := by simp [World.cell?, HBK.out]
      have k2 : wc.cell? ⟨w1.heap.size, 2, none⟩ = some (.bool d) := by simp [World.cell?, HBK.out]
      have k3 : wc.cell? ⟨w1.heap.size, 3, none⟩ = some (.int .i64 (q : Int)) := by simp [World.cell?, HBK.out]
      obtain ⟨i0, hi, hz0, hz1', hz2⟩ := info_parts info23
      have HBW : Hid (Below w.heap.size w wc) := HBE.out.trans (HB2.out.mono HBE.out.size)
      have HOA : Hid ((wc.alloc (Obj.cells #[.string x, .string val, .bool d, .int .i64 (q : Int)] 51)).ownsRow w.heap.size 51 4 (.slice aoL L cL) L (flatE l)) := (own_below HOW.out HB2.out (Nat.le_refl _)).alloc _
      have HCA : Hid (∀ j u, (encE (E.mk x val d (q : Int)))[j]? = some u → (wc.alloc (Obj.cells #[.string x, .string val, .bool d, .int .i64 (q : Int)] 51)).cell? ((⟨wc.heap.size, 0, none⟩ : Addr).add j) = some u) := ent_laid wc _ _ d _
      have HBA : Hid (w.heap.size ≤ (wc.alloc (Obj.cells #[.string x, .string val, .bool d, .int .i64 (q : Int)] 51)).heap.size) := by show _ ≤ _; have := HBW.out.size; simp; omega
      have HLM : Hid (L + 1 ≤ 1000000) := by have := H64.out; show _ ≤ _; omega
      have HL8 : Hid (c3.size ≤ 10000) := Nat.le_trans (Nat.le_of_lt hlt3) HCS.out
      have HLT3 : Hid (c3.size < cur.size) := hlt3
      have HVAL : Hid (val.size ≤ 10000) := hval
      clear hlt3 hval
      go_wp2_with (at_builtin; refine wpList_append_splitG _ rfl (.tmp 120) (.tmp 122) 22 51 rfl i0 _ 4 48 Tryd.underlying22 hi hz0 hz1' hz2 rfl (by decide) w.heap.size _ L (flatE l) rfl HOA.out HBA.out ⟨wc.heap.size, 0, none⟩ 1 1 (encE (E.mk x val d (q : Int))) rfl rfl HCA.out (encE_one _) (by decide) HLM.out (by decide) ?_)
      intro v6 w6 hown6 hgr6 hsp6
      have f0 : w6.cell? ⟨w1.heap.size, 0, none⟩ = some (.string x) := by
        have h1 : (wc.alloc (Obj.cells #[.string x, .string val, .bool d, .int .i64 (q : Int)] 51)).cell? ⟨w1.heap.size, 0, none⟩ = some (.string x) := bel_cell (bel_alloc wc _) (Nat.le_refl _) k0
        rw [← h1]
        have h2 : w1.heap.size < wc.heap.size := (Array.getElem?_eq_some_iff.1 HBK.out).1
        refine World.cell?_of_block (hgr6.block w1.heap.size (by simp; omega) (fun e => ?_))
        have := (HOW.out.lt _ e.symm).2
        omega
      have HN : Hid (w6.ownsRow w.heap.size 51 4 v6 (L + 1) (flatE l ++ encE (E.mk x val d (q : Int))) ∧ Below w.heap.size w w6) :=
        ⟨hown6, (HBW.out.alloc HBW.out.size _).grown hgr6 HBA.out (fun k hk => (HOW.out.lt k hk).1)⟩
      clear hown6 hgr6 hsp6 HOA HCA HBA k0 k1 k2 k3
      go_wp2
      go_roundw
      case rel =>
        refine ⟨c3, l ++ [⟨x, val, d, (q : Int)⟩], rfl, by rw [last_snoc], HL8.out, ?_, ?_, ?_, ?_, HN.out.2⟩
        · rw [List.length_append, HLL.out]; have := H64.out; simp; omega
        · show RInv _ _ _
          rw [HSC.out]
          exact rinv_step HRI.out HNE.out (by rw [HBF.out]; exact HEN.out)
        · show World.ownsRow _ _ _ _ _ _ _
          rw [flatE_append, List.length_append, HLL.out]
          simpa [flatE] using HN.out.1
        · show _ ∧ _
          rw [last_snoc]
          refine ⟨by rw [List.length_append, HLL.out]; exact HXS.out.1, fun e he => ?_⟩
          rcases List.mem_append.1 he with h | h
          · exact HSZ.out.2 e h
          · cases List.mem_singleton.1 h
            exact ⟨HXS.out.2, Nat.le_trans HVAL.out (by decide)⟩
      case measure => exact HLT3.out
end Go.Proofs.YtcgjhopfdpaocaaDoor

/-
  What tables and Parse of a summary answer: contracts over this translation.
-/
import Derived.Test.YtiimmknnlciljaaDoorSuT
namespace Go.Proofs.YtiimmknnlciljaaDoor
open Go.RowKit Go.Sort Go.Shelf
set_option linter.unusedSectionVars false
variable [Inhabited E] [DecidableEq E]
/-- So many tables, one behind the other. -/
def rdTbs : Nat → List UInt8 → Bool → List Tb × List UInt8 × Bool
  | 0, R, b => ([], R, b)
  | n + 1, R, b => ((rdTb R b).1 :: (rdTbs n (rdTb R b).2.1 (rdTb R b).2.2).1, (rdTbs n (rdTb R b).2.1 (rdTb R b).2.2).2)
/-- What tables takes. -/
def rdL (R : List UInt8) (bad : Bool) : List Tb × List UInt8 × Bool := if 512 < (rdN R bad).1 then ([], [], true) else rdTbs (rdN R bad).1 (rdN R bad).2.1 (rdN R bad).2.2
theorem rdTbs_len : ∀ (n : Nat) (R : List UInt8) (b : Bool), (rdTbs n R b).1.length = n
  | 0, R, b => rfl
  | n + 1, R, b => by rw [rdTbs, List.length_cons, rdTbs_len n]
theorem own_chg {w w' : World} {g base size n : Nat} {e : TypeId} {v : Value} {xs : List Value} (h : w.ownsRow base e size v n xs) (hc : Sm.Chg g w w') (hg : g < base) : w'.ownsRow base e size v n xs := by
  refine ⟨h.1, ?_⟩
  rcases h.2 with hn | ⟨k, cap, cur, rfl, hbg, hk, r⟩
  · exact .inl hn
  · exact .inr ⟨k, cap, cur, rfl, hbg, (hc.block k (Array.getElem?_eq_some_iff.1 hk).1 (by omega)).trans hk, r⟩
theorem chg_bel {g B : Nat} {w w1 w2 : World} (h : Sm.Chg g w w1) (h2 : Below B w1 w2) (hB : w.heap.size ≤ B) : Sm.Chg g w w2 :=
  ⟨h2.os.trans h.os, h2.tape.trans h.tape, h2.output.trans h.output, Nat.le_trans h.size h2.size, fun i hi hn => (h2.block i (by omega)).trans (h.block i hi hn)⟩
theorem rd_bel {w w' : World} {g B K : Nat} {R : List UInt8} {bad : Bool} (h : RdAt w g B R bad) (hb : Below K w w') (hg : g < K) (hB : B ≤ K) : RdAt w' g B R bad := by
  obtain ⟨ao, n, c, h1, h2, h3, h4, h5, h6⟩ := h
  refine ⟨ao, n, c, (hb.block g hg).trans h1, ?_, h3, h4, h5, h6⟩
  by_cases hp : 0 < n
  · exact bytes_below h2 hb (fun x hx => by have := (h6 hp x hx).2; omega)
  · exact bytes_zero h2 (by omega)
set_option maxRecDepth 100000 in
set_option maxHeartbeats 8000000 in
theorem tables_any (g B : Nat) (R : List UInt8) (bad : Bool) (w : World) (h : RdAt w g B R bad) (hBw : B ≤ w.heap.size) :
    Calls Tryd.prog 40 #[.pointer (some ⟨g, 0, none⟩)] w fun e w' => ∃ v, e = .returned v ∧ w'.ownsRow w.heap.size 51 36 v (rdL R bad).1.length (flatT (rdL R bad).1) ∧ RdAt w' g B (rdL R bad).2.1 (rdL R bad).2.2 ∧ Sm.Chg g w w' := by
  have HRD : Hid (RdAt w g B R bad) := h
  have HG0 : Hid (g < w.heap.size ∧ B ≤ w.heap.size) := ⟨h.lt, hBw⟩
  obtain ⟨⟨n, R1, b1⟩, HA⟩ : ∃ a, Hid (rdN R bad = a) := ⟨_, rfl⟩
  have HL : Hid (rdL R bad = if 512 < n then ([], [], true) else rdTbs n R1 b1) := by show _ = _; unfold rdL; rw [HA.out]
  have C1 : Hid _ := number_any g B R bad w h
  rw [HA.out] at C1
  obtain ⟨⟨LL, RR, bb⟩, HLL⟩ : ∃ a, Hid (rdL R bad = a) := ⟨_, rfl⟩
  rw [HLL.out] at HL ⊢
  have hn64 : n < 18446744073709551616 := by
    have := HA.out
    unfold rdN at this
    split at this
    · have hg : getB R = ((getB R).1, (getB R).2.1, true) := by rename_i hh; rw [← hh]
      have h2 := (getB_once _ _ _ hg).1
      have h3 := congrArg Prod.fst this
      simp only at h3
      omega
    · have h3 := congrArg Prod.fst this
      simp only at h3
      omega
  clear h hBw
  go_enter Tryd.func40, Tryd.ntmps40
  go_wp2_with fail
  refine Calls.mono C1.out ?_
  rintro e w1 ⟨rfl, hr1, hc1, hz1⟩
  have H1 : Hid (RdAt w1 g B R1 b1 ∧ Sm.Chg g w w1 ∧ w1.heap.size = w.heap.size) := ⟨hr1, hc1, hz1⟩
  clear hr1 hc1 hz1 C1
  by_cases h512 : 512 < n
  · have h5z : (512 : Int) < (n : Int) := by omega
    have HP : Hid _ := pass_no g B R1 b1 0 w1 H1.out.1
    have HE : Hid (LL = [] ∧ RR = [] ∧ bb = true) := by
      have := HL.out
      rw [if_pos h512] at this
      simp only [Prod.mk.injEq] at this
      exact this
    obtain ⟨e1, e2, e3⟩ := HE.out
    subst e1
    subst e2
    subst e3
    clear HL HLL HE
    go_wp2_with fail
    refine Calls.mono HP.out ?_
    rintro e w2 ⟨rfl, hr2, hc2, -⟩
    have HN : Hid _ := And.intro hr2 (H1.out.2.1.trans hc2)
    clear hr2 hc2
    go_wp2
    go_ret
    exact ⟨_, rfl, World.ownsRow_nil _ _ _ _, HN.out⟩
  · have h5z : ¬ (512 : Int) < (n : Int) := by omega
    have HE : Hid ((LL, RR, bb) = rdTbs n R1 b1) := by
      have := HL.out
      rwa [if_neg h512] at this
    clear HL HLL
    go_wp2
    go_loopw [4, 12] (fun o x wr => ∃ (i : Nat) (done : List Tb) (R' : List UInt8) (b' : Bool), x = .int .u64 i ∧ i ≤ n ∧ done.length = i ∧ Hid (rdTbs n R1 b1 = (done ++ (rdTbs (n - i) R' b').1, (rdTbs (n - i) R' b').2)) ∧ wr.ownsRow w.heap.size 51 36 o done.length (flatT done) ∧ RdAt wr g B R' b' ∧ Sm.Chg g w wr) (fun _ x _ => n - (intOf x).toNat)
    case atStart => exact ⟨0, [], R1, b1, rfl, by omega, rfl, rfl, World.ownsRow_nil _ _ _ _, H1.out.1, H1.out.2.1⟩
    case round =>
      obtain ⟨i, done, R', b', rfl, hin, hdl, HQ, hown, hrd, hchg⟩ := hrel
      by_cases hlt : i < n
      · have hltz : (i : Int) < (n : Int) := by omega
        have hsz := hchg.size
        have C2 : Hid _ := table_any g B R' b' wr hrd (by have := HG0.out.2; omega)
        obtain ⟨⟨x, R2, b2⟩, HT⟩ : ∃ a, Hid (rdTb R' b' = a) := ⟨_, rfl⟩
        rw [HT.out] at C2
        obtain ⟨m, hm⟩ : ∃ m, n - i = m + 1 := ⟨n - i - 1, by omega⟩
        have HQ2 : Hid (rdTbs n R1 b1 = ((done ++ [x]) ++ (rdTbs (n - (i + 1)) R2 b2).1, (rdTbs (n - (i + 1)) R2 b2).2)) := by
          show _ = _
          rw [HQ.out, hm, show n - (i + 1) = m by omega, rdTbs, HT.out]
          simp
        have HO : Hid _ := And.intro hown (And.intro hrd hchg)
        have HDL : Hid (done.length = i) := hdl
        have hd5 : done.length ≤ 512 := by omega
        clear hown hrd hchg HQ hdl hm
        go_wp2_with fail
        refine Calls.mono C2.out ?_
        rintro e w3 ⟨rfl, hr3, hc3⟩
        have HO3 : Hid ((w3.alloc (.cells (encT x).toArray 51)).ownsRow w.heap.size 51 36 u4 done.length (flatT done)) := (own_chg HO.out.1 hc3 HG0.out.1).alloc _
        have HC3 : Hid (Sm.Chg g w w3) := HO.out.2.2.trans hc3
        have HR3 : Hid (RdAt w3 g B R2 b2) := hr3
        have HB3 : Hid (w.heap.size ≤ (w3.alloc (.cells (encT x).toArray 51)).heap.size) := by show _ ≤ _; have := HC3.out.size; simp; omega
        clear hr3 hc3 C2 HO
        go_wp2_with (first | (refine wpList_build_tab _ rfl (.tmp 16) rfl x rfl ?_) | (at_builtin; refine wpList_append_tabs _ rfl (.tmp 14) (.tmp 17) rfl w.heap.size _ done.length done rfl HO3.out HB3.out _ 1 1 [x] rfl (tabsV_one w3 _) (fun h => by cases h) (by omega) ?_))
        intro v' w6 hown6 hb6
        have HN : Hid (w6.ownsRow w.heap.size 51 36 v' (done ++ [x]).length (flatT (done ++ [x])) ∧ RdAt w6 g B R2 b2 ∧ Sm.Chg g w w6) := by
          refine ⟨by rw [List.length_append]; exact hown6, ?_, ?_⟩
          · exact rd_bel (HR3.out.keep (bel_alloc _ _)) hb6 HG0.out.1 HG0.out.2
          · exact chg_bel (HC3.out.bel (bel_alloc _ _) (Nat.le_refl _)) hb6 (Nat.le_refl _)
        clear hown6 hb6
        go_wp2
        go_roundw
        case rel => exact ⟨i + 1, done ++ [x], R2, b2, by go_num, by omega, by rw [List.length_append, HDL.out]; rfl, HQ2.out, HN.out.1, HN.out.2.1, HN.out.2.2⟩
        case measure => simp [intOf]; omega
      · have hltz : ¬ (i : Int) < (n : Int) := by omega
        have HF : Hid (LL = done ∧ RR = R' ∧ bb = b') := by
          have := HE.out
          rw [HQ.out, show n - i = 0 by omega] at this
          simp only [rdTbs, List.append_nil, Prod.mk.injEq] at this
          exact this
        have HN : Hid _ := And.intro hown (And.intro hrd hchg)
        obtain ⟨e1, e2, e3⟩ := HF.out
        subst e1
        subst e2
        subst e3
        clear hown hrd hchg HF HE HQ hdl
        go_wp2
        go_ret
        exact ⟨_, rfl, HN.out⟩
/-- Is it a list's text? -/
noncomputable def parseOk (bs : List UInt8) : Bool := !(rdL bs false).2.2 && (rdL bs false).2.1.isEmpty && rightTB (rdL bs false).1
/-- What Parse leaves of its list. -/
def PV (r : Bool) (B : Nat) (w : World) (v : Value) (ts : List Tb) : Prop := (r = true → w.ownsRow B 51 36 v ts.length (flatT ts)) ∧ (r = false → v = .slice none 0 0)
theorem rdX_len (R : List UInt8) (b : Bool) : (rdX R b).1.length ≤ R.length ∧ (rdX R b).2.1.length ≤ R.length := by
  unfold rdX
  split
  · refine ⟨?_, by simp⟩
    show (textOf R).1.length ≤ _
    unfold textOf
    split
    · simp
    · simp; omega
  · simp
theorem rdN_len (R : List UInt8) (b : Bool) : (rdN R b).2.1.length ≤ R.length := by unfold rdN; split <;> simp
theorem rdD_len2 (R : List UInt8) (b : Bool) : (rdD R b).2.1.length ≤ R.length := by unfold rdD; split <;> simp
theorem rdTb_len (R : List UInt8) (b : Bool) : (rdTb R b).2.1.length ≤ R.length ∧ (rdTb R b).1.first.size ≤ R.length ∧ (rdTb R b).1.last.size ≤ R.length := by
  have h1 := rdN_len R b
  have h2 := rdN_len (rdN R b).2.1 (rdN R b).2.2
  have h3 := rdD_len2 (rdN (rdN R b).2.1 (rdN R b).2.2).2.1 (rdN (rdN R b).2.1 (rdN R b).2.2).2.2
  have h4 := rdX_len (rdD (rdN (rdN R b).2.1 (rdN R b).2.2).2.1 (rdN (rdN R b).2.1 (rdN R b).2.2).2.2).2.1 (rdD (rdN (rdN R b).2.1 (rdN R b).2.2).2.1 (rdN (rdN R b).2.1 (rdN R b).2.2).2.2).2.2
  have h5 := rdX_len (rdX (rdD (rdN (rdN R b).2.1 (rdN R b).2.2).2.1 (rdN (rdN R b).2.1 (rdN R b).2.2).2.2).2.1 (rdD (rdN (rdN R b).2.1 (rdN R b).2.2).2.1 (rdN (rdN R b).2.1 (rdN R b).2.2).2.2).2.2).2.1 (rdX (rdD (rdN (rdN R b).2.1 (rdN R b).2.2).2.1 (rdN (rdN R b).2.1 (rdN R b).2.2).2.2).2.1 (rdD (rdN (rdN R b).2.1 (rdN R b).2.2).2.1 (rdN (rdN R b).2.1 (rdN R b).2.2).2.2).2.2).2.2
  refine ⟨?_, ?_, ?_⟩
  · show (rdX _ _).2.1.length ≤ _; omega
  · show (rdX _ _).1.toArray.size ≤ _; rw [List.size_toArray]; omega
  · show (rdX _ _).1.toArray.size ≤ _; rw [List.size_toArray]; omega
theorem rdTbs_small : ∀ (n : Nat) (R : List UInt8) (b : Bool), R.length ≤ 9223372036854775807 → SmallT (rdTbs n R b).1
  | 0, R, b, _ => fun x hx => by cases hx
  | n + 1, R, b, h => fun x hx => by
    have hl := rdTb_len R b
    rw [rdTbs] at hx
    rcases List.mem_cons.1 hx with rfl | hx
    · omega
    · exact rdTbs_small n _ _ (by omega) x hx
theorem rdL_small (R : List UInt8) (b : Bool) (h : R.length ≤ 9223372036854775807) : SmallT (rdL R b).1 := by
  unfold rdL
  split
  · exact fun x hx => by cases hx
  · exact rdTbs_small _ _ _ (by have := rdN_len R b; omega)
theorem rdL_len (R : List UInt8) (b : Bool) : (rdL R b).1.length ≤ 512 := by
  unfold rdL
  split
  · simp
  · rw [rdTbs_len]; omega
set_option maxRecDepth 100000 in
set_option maxHeartbeats 8000000 in
theorem parse_any (ao : Option Addr) (n c : Nat) (bs : List UInt8) (w : World) (hb : Bytes w ao n bs) (h0 : ao = none → c = 0) (hnc : n ≤ c) (hc : c ≤ 9223372036854775807) :
    Calls Tryd.prog 20 #[.slice ao n c] w fun e w' => ∃ v, e = .returned (.tuple #[v, .int .i64 (if parseOk bs then 0 else 2)]) ∧ PV (parseOk bs) w.heap.size w' v (rdL bs false).1 ∧ Below w.heap.size w w' := by
  have hlen : bs.length ≤ 9223372036854775807 := by rw [hb.1]; omega
  obtain ⟨⟨LL, RR, bb⟩, HLL⟩ : ∃ a, Hid (rdL bs false = a) := ⟨_, rfl⟩
  have hsm := rdL_small bs false hlen
  have hle := rdL_len bs false
  rw [HLL.out] at hsm hle
  obtain ⟨ok, HOK⟩ : ∃ o, Hid (parseOk bs = o) := ⟨_, rfl⟩
  have HOQ : Hid (ok = (!bb && RR.isEmpty && rightTB LL)) := by show _ = _; rw [← HOK.out]; unfold parseOk; rw [HLL.out]
  obtain ⟨er, HER⟩ : ∃ er : Int, Hid ((if ok then (0 : Int) else 2) = er) := ⟨_, rfl⟩
  rw [HOK.out, HLL.out, HER.out]
  have HBY : Hid (Bytes w ao n bs ∧ (ao = none → c = 0) ∧ n ≤ c ∧ c ≤ 9223372036854775807) := ⟨hb, h0, hnc, hc⟩
  have HSM : Hid (SmallT LL ∧ LL.length ≤ 512) := ⟨hsm, hle⟩
  have hrow : ∀ W : World, W.heap[w.heap.size]? = some (.cells #[.slice ao n c, .bool false] 64 (0, 0)) → Below w.heap.size w W → RdAt W w.heap.size w.heap.size bs false := fun W h1 h2 =>
    ⟨ao, n, c, h1, bytes_kept hb h2 (Nat.le_refl _), h0, hnc, hc, fun hp x hx => by
      obtain ⟨b, off, h3, h4⟩ := bytes_blk hb (by rw [hb.1]; exact hp)
      rw [h3] at hx
      cases hx
      exact ⟨by show b ≠ _; omega, h4⟩⟩
  have HROW : Hid (∀ W : World, W.heap[w.heap.size]? = some (.cells #[.slice ao n c, .bool false] 64 (0, 0)) → Below w.heap.size w W → RdAt W w.heap.size w.heap.size bs false) := hrow
  clear hb h0 hnc hc hlen hsm hle hrow
  go_enter Tryd.func20, Tryd.ntmps20
  go_upto_region 2 with fail
  have HR0 : Hid (RdAt (w.alloc (Obj.cells #[Value.slice ao n c, Value.bool false] 64)) w.heap.size w.heap.size bs false) := HROW.out _ (heap_alloc_new w _) (bel_alloc w _)
  have C1 : Hid _ := tables_any w.heap.size w.heap.size bs false _ HR0.out (by simp)
  rw [HLL.out] at C1
  clear HROW
  go_wp2_with fail
  refine Calls.mono C1.out ?_
  rintro e w1 ⟨v1, rfl, hown, hrd, hchg⟩
  have HB1 : Hid (Below w.heap.size w w1) := (bel_alloc w _).trans (hchg.below (Nat.le_refl _) (by simp))
  have HO1 : Hid (w1.ownsRow w.heap.size 51 36 v1 LL.length (flatT LL)) := ownsRow_mono hown (by simp)
  obtain ⟨a1, c1, rfl, hT1, -, -, -, -⟩ := own_tabsV hown
  have CR : Hid _ := right14_any a1 LL.length c1 LL w1 hT1 HSM.out.1 (by have := HSM.out.2; omega)
  obtain ⟨ao2, n2, c2, h1, h2, -, -, -, -⟩ := hrd
  have d0 : w1.cell? ⟨w.heap.size, 0, none⟩ = some (.slice ao2 n2 c2) := by rw [cell_of_row _ _ _ _ _ _ h1]; rfl
  have d1 : w1.cell? ⟨w.heap.size, 1, none⟩ = some (.bool bb) := by rw [cell_of_row _ _ _ _ _ _ h1]; rfl
  have HL2 : Hid (RR.length = n2) := h2.1
  clear hown hchg hT1 h1 h2 C1 HR0
  cases bb with
  | true =>
    obtain rfl : ok = false := HOQ.out
    obtain rfl : er = 2 := HER.out.symm
    clear HOQ HER CR
    go_wp2
    go_ret2
    exact ⟨_, rfl, ⟨fun h => (by cases h), fun _ => rfl⟩, HB1.out⟩
  | false =>
    by_cases hn2 : 0 < n2
    · have hz : (0 : Int) < (n2 : Int) := by omega
      have hok : ok = false := by
        rw [HOQ.out]
        have : RR.isEmpty = false := by
          cases RR with
          | nil => have := HL2.out; simp at this; omega
          | cons a r => rfl
        rw [this]; rfl
      subst hok
      obtain rfl : er = 2 := HER.out.symm
      clear HOQ HER CR
      go_wp2
      go_ret2
      exact ⟨_, rfl, ⟨fun h => (by cases h), fun _ => rfl⟩, HB1.out⟩
    · obtain rfl : n2 = 0 := by omega
      have hok : ok = rightTB LL := by
        rw [HOQ.out]
        have : RR = [] := List.eq_nil_of_length_eq_zero HL2.out
        rw [this]; rfl
      have HOK2 : Hid (ok = rightTB LL) := hok
      rw [← hok] at CR
      clear hok HOQ
      go_wp2_with fail
      refine Calls.mono CR.out ?_
      rintro e w2 ⟨rfl, hb2⟩
      have HB2 : Hid (Below w.heap.size w w2) := HB1.out.trans (hb2.mono HB1.out.size)
      have HO2 : Hid (w2.ownsRow w.heap.size 51 36 (.slice a1 LL.length c1) LL.length (flatT LL)) := own_below HO1.out hb2 (Nat.le_refl _)
      clear hb2 CR d0 d1
      cases ok with
      | false =>
        obtain rfl : er = 2 := HER.out.symm
        go_wp2
        go_ret2
        exact ⟨_, rfl, ⟨fun h => (by cases h), fun _ => rfl⟩, HB2.out⟩
      | true =>
        obtain rfl : er = 0 := HER.out.symm
        go_wp2
        go_ret2
        exact ⟨_, rfl, ⟨fun _ => HO2.out, fun h => (by cases h)⟩, HB2.out⟩
end Go.Proofs.YtiimmknnlciljaaDoor

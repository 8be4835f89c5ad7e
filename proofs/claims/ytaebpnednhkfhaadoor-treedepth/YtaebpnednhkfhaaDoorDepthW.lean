/-
  The walk of marlstonelaw05.TreeDepth.
-/
import Derived.Test.YtaebpnednhkfhaaDoorShown
import Derived.Test.YtaebpnednhkfhaaDoorPartV
import Derived.Test.YtaebpnednhkfhaaDoorSplitsW
import Derived.Test.YtaebpnednhkfhaaDoorPrvM
namespace Go.Proofs.YtaebpnednhkfhaaDoor
open Go.RowKit
theorem and65535 (n : Int) : bits .and .i64 n 65535 = n % 65536 := by
  have hm : (BitVec.ofInt 64 65535).toNat = 2 ^ 16 - 1 := by decide
  have key : (BitVec.ofInt 64 n &&& BitVec.ofInt 64 65535).toNat = (n % ((2 ^ 64 : Nat) : Int)).toNat % 2 ^ 16 := by
    rw [BitVec.toNat_and, BitVec.toNat_ofInt, hm, Nat.and_two_pow_sub_one_eq_mod]
  show IntKind.i64.wrap ((BitVec.ofInt 64 n &&& BitVec.ofInt 64 65535).toNat : Nat) = n % 65536
  rw [key, IntKind.wrap_i64]
  omega
theorem dn_full (i : Nat) : ∀ (k a : Nat), a + 2 ^ k ≤ 9223372036854775807 → (dnL a (a + 2 ^ k) i).length = k := by
  intro k
  induction k with
  | zero => intro a _; rw [dnL_one i (by simp)]; rfl
  | succ k ih =>
    intro a hb
    have hp : 1 ≤ 2 ^ k := Nat.one_le_two_pow
    have h2 : 2 ^ (k + 1) = 2 * 2 ^ k := by rw [Nat.pow_succ]; omega
    have hh : halfN (a + 2 ^ (k + 1) - a) = 2 ^ k := by rw [show a + 2 ^ (k + 1) - a = 2 ^ (k + 1) by omega]; exact half_is (by omega) (by omega) (by omega)
    rw [dnL_two i (by omega) hb, hh]
    split
    · rw [List.length_cons, ih a (by omega)]
    · rw [List.length_cons, show a + 2 ^ (k + 1) = (a + 2 ^ k) + 2 ^ k by omega, ih (a + 2 ^ k) (by omega)]
theorem up_full (i k : Nat) (hk : 2 ^ k ≤ 1000) : (upL (2 ^ k) i).length = k := by
  unfold upL; rw [List.length_reverse]
  have h := dn_full i k 0 (by omega)
  rw [Nat.zero_add] at h
  exact h
theorem up_more (i k : Nat) (hk : 2 ^ k ≤ 1000) : (upL (2 ^ k + 1) i).length = if i < 2 ^ k then k + 1 else 1 := by
  have hp : 1 ≤ 2 ^ k := Nat.one_le_two_pow
  unfold upL; rw [List.length_reverse, dnL_two i (by omega) (by omega), show 2 ^ k + 1 - 0 = 2 ^ k + 1 from rfl, half_is (j := k) (by omega) (by omega) (by omega), Nat.zero_add]
  split
  · have h := dn_full i k 0 (by omega)
    rw [Nat.zero_add] at h
    rw [List.length_cons, h]
  · rw [List.length_cons, dnL_one i (by omega)]; rfl
theorem pathD_len (z : Int) (ls : List LV) (i : Nat) (h : i < ls.length) : (pathD z ls (i : Int)).length = (upL ls.length i).length := by
  unfold pathD
  rw [if_pos (by omega), besideD, List.length_map, spanS, List.length_map, Int.toNat_natCast]
theorem OwnL.last {w w' : World} {base : Nat} {v v' : Value} {ls : List LV} {p : LV} (h : OwnL w base v ls) (hown : w'.ownsRow base 36 1 v' (ls.length + 1) (slVs ls ++ [.slice p.ao p.n p.c])) (hk : ∀ k, k < w.heap.size → some k ≠ v.ownBlock → w'.heap[k]? = w.heap[k]?)
    (h1 : Bytes w' p.ao p.n p.bs) (h2 : p.n ≤ 140737488355000) (h3 : p.ao = none → p.c = 0) : ∃ ao c, v' = .slice ao (ls.length + 1) c ∧ LeavesV w' ao (ls.length + 1) c (ls ++ [p]) := by
  have hsame : ∀ (a : Addr) cs fr, w.heap[a.block]? = some (.cells cs 5 fr) → w'.heap[a.block]? = w.heap[a.block]? := fun a cs fr ha => by
    refine hk a.block (Array.getElem?_eq_some_iff.1 ha).1 (fun e => ?_)
    rcases h.1.2 with ⟨e1, -⟩ | ⟨g, cap, cur, e1, -, hh, -⟩
    · rw [e1] at e; cases e
    · rw [e1] at e
      simp [Value.ownBlock] at e
      rw [e, hh] at ha
      cases ha
  obtain ⟨hl, ⟨rfl, h0⟩ | ⟨g, cap, cur, rfl, hg, hh, hc, hm, hs, ht⟩⟩ := hown
  · omega
  · refine ⟨some ⟨g, 0, none⟩, cap, rfl, by simp, hc, by unfold maxLen at hm; omega, fun _ => ⟨g, 0, rfl, fun i q hi => ?_⟩⟩
    have hq : Bytes w' q.ao q.n q.bs ∧ q.n ≤ 140737488355000 ∧ (q.ao = none → q.c = 0) := by
      rcases List.mem_append.1 (List.mem_of_getElem? hi) with hm | hm
      · obtain ⟨q1, q2, q3, q4⟩ := h.2 q hm
        exact ⟨bytes_same q1 (fun a ha => by obtain ⟨cs, fr, h⟩ := q4 a ha; exact hsame a cs fr h), q2, q3⟩
      · rw [List.mem_singleton] at hm
        subst hm
        exact ⟨h1, h2, h3⟩
    refine ⟨?_, hq⟩
    rw [Nat.zero_add, cell_of_row w' g i _ _ _ hh]
    have e : (cur.toList.take ((ls.length + 1) * 1))[i]? = some (Value.slice q.ao q.n q.c) := by
      rw [ht, show slVs ls ++ [Value.slice p.ao p.n p.c] = slVs (ls ++ [p]) by simp [slVs], slVs, List.getElem?_map, hi]; rfl
    rw [List.getElem?_take] at e
    split at e
    · simpa using e
    · cases e
set_option maxRecDepth 100000 in
set_option maxHeartbeats 4000000 in
theorem depth_walk (k0 : Int) (fa : Option Addr) (fn fc : Nat) (fb : List UInt8) (w : World) (hF : Bytes w fa fn fb) (hf0 : fa = none → fc = 0) (hfc : fn ≤ fc) (hfm : fc ≤ 140737488351232) (hK : WW w 0 ks) (h0 : 0 < w.heap.size) :
    Calls Tryd.prog 12 #[.int .i64 k0, .slice fa fn fc] w fun e w' => e = .returned (.bool true) ∧ Below w.heap.size w w' := by
  have HKW : Hid (WW w 0 ks ∧ 0 < w.heap.size) := ⟨hK, h0⟩
  have HSH : Hid (Calls Tryd.prog 20 #[] w fun e w' => e = .returned (.bool true) ∧ Below w.heap.size w w') := shown_any w hK h0
  obtain ⟨i0, hi, hz0, hz1, hz2⟩ := info_parts info36
  have HI : Hid (Tryd.prog.info? 36 = some i0 ∧ i0.zero = some (.slice none 0 0) ∧ i0.size = 1 ∧ i0.bytes = 24) := ⟨hi, hz0, hz1, hz2⟩
  obtain ⟨m, HM⟩ : ∃ m : Nat, Hid (min fn 50 = m) := ⟨_, rfl⟩
  have hm : min (fn : Int) 50 = (m : Int) := by have := HM.out; omega
  have HMB : Hid (m ≤ fn ∧ m ≤ 50 ∧ m ≤ fc) := by show _ ∧ _ ∧ _; have := HM.out; omega
  have HF : Hid (∀ W, Below w.heap.size w W → Bytes W fa m (fb.take m)) := fun W hW => bytes_take (bytes_kept hF hW (Nat.le_refl _)) m HMB.out.1
  have HF0 : Hid (fa = none → fc = 0) := hf0
  obtain ⟨r, hbit, hr⟩ : ∃ r : Nat, bits .and .i64 k0 65535 = (r : Int) ∧ r ≤ 65535 := ⟨(k0 % 65536).toNat, by rw [and65535]; omega, by omega⟩
  obtain ⟨k, HKD⟩ : ∃ k : Nat, Hid (r % 7 = k) := ⟨_, rfl⟩
  have hrem : (r : Int).tmod 7 = (k : Int) := by rw [Int.tmod_eq_emod_of_nonneg (by omega)]; have := HKD.out; omega
  have hk6 : k ≤ 6 := by have := HKD.out; omega
  obtain ⟨n, HND⟩ : ∃ n : Nat, Hid ((2 : Nat) ^ k = n) := ⟨_, rfl⟩
  have HNB : Hid (1 ≤ n ∧ n ≤ 64) := by
    show _ ∧ _
    rw [← HND.out]
    exact ⟨Nat.one_le_two_pow, by have h := Nat.pow_le_pow_right (show 0 < 2 by omega) hk6; exact h⟩
  have hsh := shl_val HND.out (by have := HNB.out; omega)
  have hmz : (m : Int) ≤ (fc : Int) := by have := HMB.out; omega
  have hkc : (0 : Int) ≤ (k : Int) := by omega
  clear hF hf0 hfc hfm hK h0 hi hz0 hz1 hz2 hr
  go_enter Tryd.func12, Tryd.ntmps12
  go_wp2_with fail
  refine (HSH.out).mono ?_
  rintro e w1 ⟨rfl, hb1⟩
  have HB1 : Hid (Below w.heap.size w w1) := hb1
  clear hb1 HSH
  have HO0 : Hid (OwnL w1 w1.heap.size (.slice none 0 0) []) := ⟨World.ownsRow_nil _ _ _ _, fun p hp => by cases hp⟩
  go_wp2_with fail
  simp only [hsh]
  clear hsh
  go_loopw [7, 8] (fun s7 s8 wr => ∃ (i : Nat) (ls : List LV), s8 = .int .i64 i ∧ i ≤ n ∧ Hid (OwnL wr w1.heap.size s7 ls) ∧ Hid (ls.length = i) ∧ Hid (Below w1.heap.size w1 wr)) (fun _ x _ => n - (intOf x).toNat)
  case atStart => exact ⟨0, [], rfl, Nat.zero_le _, HO0, rfl, Below.refl _ _⟩
  case round =>
    obtain ⟨i, ls, rfl, hin, HO, HLN, HBE⟩ := hrel
    by_cases hlt : i < n
    case pos =>
      have hlz : (i : Int) < (n : Int) := by omega
      have hi8 : IntKind.u8.wrap (i : Int) = ((UInt8.ofNat i).toNat : Int) := by
        rw [toNat_ofNat i (by have := HNB.out; omega), IntKind.wrap_u8]
        have := HNB.out; omega
      obtain ⟨ci, HCI⟩ : ∃ c, Hid (UInt8.ofNat i = c) := ⟨_, rfl⟩
      rw [HCI.out] at hi8
      clear hin
      have HBY1 : Hid (Bytes (wr.alloc (Obj.cells #[.int .u8 (ci.toNat : Int)] 5)) fa m (fb.take m)) := HF.out _ (HB1.out.trans ((HBE.out.trans ((bel_alloc wr _).mono HBE.out.size)).mono HB1.out.size))
      have HO1 : Hid ((wr.alloc (.cells #[.int .u8 (ci.toNat : Int)] 5)).ownsRow wr.heap.size 5 1 (.slice (some ⟨wr.heap.size, 0, none⟩) 1 1) 1 (cellsOf [ci])) := own_one wr ci
      have HSZ1 : Hid (wr.heap.size ≤ (wr.alloc (Obj.cells #[.int .u8 (ci.toNat : Int)] 5)).heap.size) := (bel_alloc wr _).size
      go_wp2_with (at_builtin; refine wpList_append_bytes _ rfl (.tmp 31) (.tmp 36) rfl wr.heap.size _ 1 [ci] rfl HO1.out HSZ1.out fa m fc (fb.take m) rfl HBY1.out HF0.out (by have := HMB.out; omega) ?_)
      intro v2 w2 hown2 hb2
      have HB2 : Hid (Below wr.heap.size wr w2) := (bel_alloc wr _).trans hb2
      obtain ⟨ao2, c2, rfl, hby2, hno2, hc2, -, -, -⟩ := own_bytes hown2
      have HT2 := own_type hown2
      obtain ⟨q, HQ⟩ : ∃ q : Nat, Hid (min m fb.length + 1 = q) := ⟨_, rfl⟩
      have HQB : Hid (q ≤ 1000) := by
        show _ ≤ _
        have h1 := HQ.out
        have h2 := HMB.out
        omega
      obtain ⟨bq, HBQ⟩ : ∃ l, Hid (ci :: fb.take m = l) := ⟨_, rfl⟩
      rw [HBQ.out] at hown2 hby2
      rw [HQ.out] at hown2 hby2 hc2 ⊢
      have HV2 : Hid (Bytes w2 ao2 q bq ∧ (ao2 = none → c2 = 0) ∧ q ≤ c2 ∧ ∀ a, ao2 = some a → ∃ cs fr, w2.heap[a.block]? = some (.cells cs 5 fr)) := ⟨hby2, hno2, hc2, HT2⟩
      clear hown2 hb2 hby2 hno2 hc2 HT2 HO1 HBY1 HSZ1
      have HB3 : Hid (Below wr.heap.size wr (w2.alloc (.cells #[.slice ao2 q c2] 36))) := HB2.out.trans ((bel_alloc w2 _).mono HB2.out.size)
      have HC3 : Hid (∀ j u, [Value.slice ao2 q c2][j]? = some u → (w2.alloc (.cells #[.slice ao2 q c2] 36)).cell? ((⟨w2.heap.size, 0, none⟩ : Addr).add j) = some u) := fun j u hu => by
        rw [Addr.add_lit, cell_of_row _ _ _ _ _ _ (heap_alloc_new w2 _)]
        simpa using hu
      have HT3 : Hid (∀ a, ao2 = some a → ∃ cs fr, (w2.alloc (.cells #[.slice ao2 q c2] 36)).heap[a.block]? = some (.cells cs 5 fr)) := fun a h => by
        obtain ⟨cs, fr, h1⟩ := HV2.out.2.2.2 a h
        exact ⟨cs, fr, ((bel_alloc w2 _).block _ (Array.getElem?_eq_some_iff.1 h1).1).trans h1⟩
      have HY3 : Hid (Bytes (w2.alloc (.cells #[.slice ao2 q c2] 36)) ao2 q bq) := bytes_kept HV2.out.1 (bel_alloc w2 _) (Nat.le_refl _)
      have HO3 : Hid (OwnL (w2.alloc (.cells #[.slice ao2 q c2] 36)) w1.heap.size u7 ls) := HO.out.below HB3.out (Nat.le_refl _)
      have HSZ3 : Hid (w1.heap.size ≤ (w2.alloc (.cells #[.slice ao2 q c2] 36)).heap.size) := Nat.le_trans HBE.out.size HB3.out.size
      go_wp2_with (at_builtin; refine wpList_append_own _ rfl (.tmp 28) (.tmp 38) 22 rfl w1.heap.size 36 i0 _ 1 24 Tryd.underlying22 HI.out.1 HI.out.2.1 HI.out.2.2.1 HI.out.2.2.2 rfl (by decide) u7 ls.length (slVs ls) rfl HO3.out.1 ⟨w2.heap.size, 0, none⟩ 1 1 [.slice ao2 q c2] rfl rfl HC3.out (fun u hu => by rw [List.mem_singleton] at hu; rw [hu]; rfl) (by have := HLN.out; have := HNB.out; unfold maxLen; omega) (by have := HLN.out; have := HNB.out; omega) HSZ3.out ?_)
      intro v4 w4 hown4 hgr4 _
      have HO4 : Hid (OwnL w4 w1.heap.size v4 (ls ++ [⟨ao2, q, c2, bq⟩])) := HO3.out.append hown4 hgr4.block HY3.out (show q ≤ 140737488355000 by have := HQB.out; omega) HV2.out.2.1 HT3.out
      have HB4 : Hid (Below w1.heap.size w1 w4) := (HBE.out.trans (HB3.out.mono HBE.out.size)).trans ((Below.refl _ _).grown hgr4 HSZ3.out (fun k hk => (HO3.out.1.lt k hk).1))
      have HL4 : Hid ((ls ++ [(⟨ao2, q, c2, bq⟩ : LV)]).length = i + 1) := by show _ = _; rw [List.length_append, HLN.out]; rfl
      clear hown4 hgr4
      have hi1 : i + 1 ≤ n := by omega
      have hn64 : n ≤ 64 := HNB.out.2
      clear hi8 hm hmz
      go_wp2_with fail
      refine ⟨⟨i + 1, _, rfl, hi1, HO4, HL4, HB4⟩, ?_⟩
      simp [intOf]
      omega
    case neg =>
      have hlz : ¬ (i : Int) < (n : Int) := by omega
      obtain ⟨wo, hwo⟩ : ∃ W, W = wr := ⟨_, rfl⟩
      subst hwo
      have HLN2 : Hid (ls.length = n) := by show _ = _; rw [HLN.out]; omega
      obtain ⟨ao7, c7, HV7, hL7⟩ := HO.out.leaves
      have HKB : Hid (∀ W, Below wo.heap.size wo W → WW W 0 ks ∧ 0 < W.heap.size) := fun W hW => by
        have h1 := HB1.out.trans ((HBE.out.trans (hW.mono HBE.out.size)).mono HB1.out.size)
        exact ⟨HKW.out.1.below h1 HKW.out.2, Nat.lt_of_lt_of_le HKW.out.2 h1.size⟩
      have HPA : Hid (∀ (x : Nat) (W : World), x < n → Below wo.heap.size wo W → Calls Tryd.prog 38 #[u7, .int .i64 (x : Int)] W fun e w' => ∃ ao' c', e = .returned (.tuple #[.slice ao' k c', .int .i64 0]) ∧ Below W.heap.size W w') := fun x W hx hW => by
        rw [HV7, HLN2.out]
        have hL := (hL7.below hW (Nat.le_refl _))
        rw [HLN2.out] at hL
        refine (pathN_any ao7 n c7 ls (x : Int) W hL (by have := HNB.out; omega) (HKB.out W hW).1 (HKB.out W hW).2).mono ?_
        rintro e w' ⟨v, rfl, hd, hb⟩
        obtain ⟨ao', c', rfl, -⟩ := hd.path
        rw [pathD_len 256 ls x (by rw [HLN2.out]; exact hx), HLN2.out, ← HND.out, up_full x k (by rw [HND.out]; have := HNB.out; omega), show pathE (2 ^ k) (x : Int) = 0 from if_pos (by rw [HND.out]; omega)]
        exact ⟨ao', c', rfl, hb⟩
      have HOX : Hid (OwnL wo w1.heap.size u7 ls) := HO
      clear hin hlt hL7 HV7
      go_wp2_with fail
      go_loopw [9] (fun s9 wq => ∃ (x : Nat), s9 = .int .i64 x ∧ x ≤ n ∧ Hid (Below wo.heap.size wo wq)) (fun y _ => n - (intOf y).toNat)
      case atStart => exact ⟨0, rfl, Nat.zero_le _, Below.refl _ _⟩
      case round =>
        obtain ⟨wq, hwq⟩ : ∃ W, W = wr := ⟨_, rfl⟩
        subst hwq
        obtain ⟨x, rfl, hxn, HBQ⟩ := hrel
        by_cases hlt : x < n
        case pos =>
          have hxz : (x : Int) < (n : Int) := by omega
          have HC := HPA.out x wq hlt HBQ.out
          have HC : Hid _ := HC
          go_wp2_with fail
          refine Calls.mono HC.out ?_
          rintro e wq2 ⟨ao', c', rfl, hb⟩
          have HBQ2 : Hid (Below wo.heap.size wo wq2) := HBQ.out.trans (hb.mono HBQ.out.size)
          have hn64 : n ≤ 64 := HNB.out.2
          clear hb HC
          go_wp2_with fail
          refine ⟨⟨x + 1, rfl, by omega, HBQ2⟩, ?_⟩
          simp [intOf]
          omega
        case neg =>
          have hxz : ¬ (x : Int) < (n : Int) := by omega
          clear hxn hlt
          have HBYq : Hid (Bytes (wq.alloc (.cells #[.slice fa m fc] 36)) fa m (fb.take m)) := HF.out _ (HB1.out.trans ((HBE.out.trans ((HBQ.out.trans ((bel_alloc wq _).mono HBQ.out.size)).mono HBE.out.size)).mono HB1.out.size))
          have HCq : Hid (∀ j u, [Value.slice fa m fc][j]? = some u → (wq.alloc (.cells #[.slice fa m fc] 36)).cell? ((⟨wq.heap.size, 0, none⟩ : Addr).add j) = some u) := fun j u hu => by
            rw [Addr.add_lit, cell_of_row _ _ _ _ _ _ (heap_alloc_new wq _)]
            simpa using hu
          have HBq : Hid (Below wo.heap.size wo (wq.alloc (.cells #[.slice fa m fc] 36))) := HBQ.out.trans ((bel_alloc wq _).mono HBQ.out.size)
          have HOq : Hid (OwnL (wq.alloc (.cells #[.slice fa m fc] 36)) w1.heap.size u7 ls) := HOX.out.below HBq.out (Nat.le_refl _)
          have HSq : Hid (w1.heap.size ≤ (wq.alloc (.cells #[.slice fa m fc] 36)).heap.size) := Nat.le_trans HBE.out.size HBq.out.size
          go_wp2_with (at_builtin; refine wpList_append_own _ rfl (.tmp 59) (.tmp 65) 22 rfl w1.heap.size 36 i0 _ 1 24 Tryd.underlying22 HI.out.1 HI.out.2.1 HI.out.2.2.1 HI.out.2.2.2 rfl (by decide) u7 ls.length (slVs ls) rfl HOq.out.1 ⟨wq.heap.size, 0, none⟩ 1 1 [.slice fa m fc] rfl rfl HCq.out (fun u hu => by rw [List.mem_singleton] at hu; rw [hu]; rfl) (by have := HLN2.out; have := HNB.out; unfold maxLen; omega) (by have := HLN2.out; have := HNB.out; omega) HSq.out ?_)
          intro v8 w8 hown8 hgr8 _
          have hB18 : Below w1.heap.size (wq.alloc (.cells #[.slice fa m fc] 36)) w8 := (Below.refl _ _).grown hgr8 HSq.out (fun k hk => (HOq.out.1.lt k hk).1)
          have HB8 : Hid (Below w1.heap.size w1 w8) := (HBE.out.trans (HBq.out.mono HBE.out.size)).trans hB18
          have HBY8 : Hid (Bytes w8 fa m (fb.take m)) := HF.out _ (HB1.out.trans (HB8.out.mono HB1.out.size))
          obtain ⟨ao8, c8, HV8, hL8⟩ := OwnL.last (p := ⟨fa, m, fc, fb.take m⟩) HOq.out hown8 hgr8.block HBY8.out (show m ≤ 140737488355000 by have := HMB.out; omega) HF0.out
          obtain rfl := HV8
          have HKB8 : Hid (∀ W, Below w8.heap.size w8 W → WW W 0 ks ∧ 0 < W.heap.size) := fun W hW => by
            have h1 := HB1.out.trans ((HB8.out.trans (hW.mono HB8.out.size)).mono HB1.out.size)
            exact ⟨HKW.out.1.below h1 HKW.out.2, Nat.lt_of_lt_of_le HKW.out.2 h1.size⟩
          have HPB : Hid (∀ (x : Nat) (W : World), x ≤ n → Below w8.heap.size w8 W → Calls Tryd.prog 38 #[.slice ao8 (n + 1) c8, .int .i64 (x : Int)] W fun e w' => ∃ ao' c', e = .returned (.tuple #[.slice ao' (if x < n then k + 1 else 1) c', .int .i64 0]) ∧ Below W.heap.size W w') := fun x W hx hW => by
            have hL := (hL8.below hW (Nat.le_refl _))
            have hll : (ls ++ [(⟨fa, m, fc, fb.take m⟩ : LV)]).length = n + 1 := by rw [List.length_append, HLN2.out]; rfl
            rw [HLN2.out] at hL
            refine (pathN_any ao8 (n + 1) c8 _ (x : Int) W hL (by have := HNB.out; omega) (HKB8.out W hW).1 (HKB8.out W hW).2).mono ?_
            rintro e w' ⟨v, rfl, hd, hb⟩
            obtain ⟨ao', c', rfl, -⟩ := hd.path
            rw [pathD_len 256 _ x (by rw [hll]; omega), hll, ← HND.out, up_more x k (by rw [HND.out]; have := HNB.out; omega), show pathE (2 ^ k + 1) (x : Int) = 0 from if_pos (by rw [HND.out]; omega)]
            exact ⟨ao', c', rfl, hb⟩
          rw [HLN2.out]
          clear hown8 hgr8 hB18 hL8 hm hmz
          go_wp2_with fail
          go_loopw [12] (fun s12 wz => ∃ (x : Nat), s12 = .int .i64 x ∧ x ≤ n + 1 ∧ Hid (Below w8.heap.size w8 wz)) (fun y _ => n + 1 - (intOf y).toNat)
          case atStart => exact ⟨0, rfl, Nat.zero_le _, Below.refl _ _⟩
          case round =>
            obtain ⟨wz, hwz⟩ : ∃ W, W = wr := ⟨_, rfl⟩
            subst hwz
            obtain ⟨x, rfl, hxn, HBZ⟩ := hrel
            by_cases hlt : x ≤ n
            case pos =>
              have hxz : (x : Int) ≤ (n : Int) := by omega
              have HC := HPB.out x wz hlt HBZ.out
              have hn64 : n ≤ 64 := HNB.out.2
              by_cases hxe : x < n
              · rw [if_pos hxe] at HC
                have HC : Hid _ := HC
                have hne : ((x : Int) == (n : Int)) = false := by simp; omega
                go_wp2_with fail
                refine Calls.mono HC.out ?_
                rintro e wz2 ⟨ao', c', rfl, hb⟩
                have HBZ2 : Hid (Below w8.heap.size w8 wz2) := HBZ.out.trans (hb.mono HBZ.out.size)
                clear hb HC
                go_wp2_with fail
                refine ⟨⟨x + 1, rfl, by omega, HBZ2⟩, ?_⟩
                simp [intOf]
                omega
              · rw [if_neg hxe] at HC
                have HC : Hid _ := HC
                have hxn2 : x = n := by omega
                subst hxn2
                go_wp2_with fail
                refine Calls.mono HC.out ?_
                rintro e wz2 ⟨ao', c', rfl, hb⟩
                have HBZ2 : Hid (Below w8.heap.size w8 wz2) := HBZ.out.trans (hb.mono HBZ.out.size)
                clear hb HC
                go_wp2_with fail
                refine ⟨⟨x + 1, rfl, by omega, HBZ2⟩, ?_⟩
                simp [intOf]
            case neg =>
              have hxz : ¬ (x : Int) ≤ (n : Int) := by omega
              clear hxn hlt
              go_wp2_with fail
              go_ret
              exact ⟨rfl, HB1.out.trans ((HB8.out.trans (HBZ.out.mono HB8.out.size)).mono HB1.out.size)⟩
end Go.Proofs.YtaebpnednhkfhaaDoor

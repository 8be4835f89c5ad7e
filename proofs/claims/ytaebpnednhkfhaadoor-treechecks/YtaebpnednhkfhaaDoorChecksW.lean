/-
  The walk of marlstonelaw05.TreeChecks.
-/
import Derived.Test.YtaebpnednhkfhaaDoorShown
import Derived.Test.YtaebpnednhkfhaaDoorSameW
import Derived.Test.YtaebpnednhkfhaaDoorRefCk
namespace Go.Proofs.YtaebpnednhkfhaaDoor
open Go.RowKit
theorem digC_cells {w : World} {b off : Nat} {es : List (List UInt8)} (hd : ∀ d ∈ es, d.length = 32) (hp : ∀ k d, es[k]? = some d → w.rangeAt b (off + k * 32) (cellsOf d)) : ∀ j u, (digC es)[j]? = some u → w.cell? ((⟨b, off, none⟩ : Addr).add j) = some u := by
  intro j u hu
  have hj := (List.getElem?_eq_some_iff.1 hu).1
  rw [digC_length es hd] at hj
  have hk : j / 32 < es.length := by omega
  have e : j = j / 32 * 32 + j % 32 := by omega
  have h1 := digC_at es (j / 32) es[j / 32] (j % 32) hd (List.getElem?_eq_getElem hk) (Nat.mod_lt _ (by omega))
  rw [← e, hu] at h1
  have h2 := hp (j / 32) es[j / 32] (List.getElem?_eq_getElem hk) (j % 32) u h1.symm
  rw [Addr.add_lit]
  rw [show off + j / 32 * 32 + j % 32 = off + j by omega] at h2
  exact h2
/-- 'append(own, path...)' of digests that came in. -/
theorem wpList_append_path {ops : Array Oper} {rest : List Oper} {o : Oper} {a : Act} {Q : Exit → Act → World → Prop} (w : World)
    (hg : o.guard = none) (s x : Operand) (hop : o.op = Op.call { callee := Callee.builtin Builtin.append, args := #[s, x], argTypes := #[40, 40] })
    (base : Nat) (v : Value) (ds : List (List UInt8)) (hs : a.eval s = v) (hown : DgO w base v ds) (hbase : base ≤ w.heap.size)
    (ao : Option Addr) (m c : Nat) (es : List (List UInt8)) (hx : a.eval x = .slice ao m c) (hP : PathV w ao es) (hl : es.length = m) (h0 : ao = none → c = 0) (hb : ds.length + es.length ≤ 1000)
    (hK : ∀ v' w', DgO w' base v' (ds ++ es) → Below base w w' → wpList Tryd.prog ops Q rest (a.put o.dst v') w') :
    wpList Tryd.prog ops Q (o :: rest) a w := by
  obtain ⟨i0, hi, hz0, hz1, hz2⟩ := info_parts info24
  cases ao with
  | none =>
    have hes : es = [] := by
      cases es with
      | nil => rfl
      | cons d t => obtain ⟨b, off, h, -⟩ := hP.2 (by simp); cases h
    subst hes
    obtain rfl := h0 rfl
    obtain rfl : 0 = m := hl
    exact wpList_append_dgo w hg s x hop base v ds hs hown hbase w.heap.size (.slice none 0 0) [] hx ⟨World.ownsRow_nil _ _ _ _, fun d hd => by simp at hd⟩ (by simpa using hb) (fun v' w' h1 h2 _ => hK v' w' h1 h2)
  | some ad =>
    have hcell : ∀ j u, (digC es)[j]? = some u → w.cell? (ad.add j) = some u := fun j u hu => by
      have hpos : 0 < es.length := by
        rcases Nat.eq_zero_or_pos es.length with h | h
        · rw [List.length_eq_zero_iff] at h
          subst h
          simp [digC] at hu
        · exact h
      obtain ⟨b, off, h1, h2⟩ := hP.2 hpos
      cases h1
      exact digC_cells hP.1 h2 j u hu
    refine BigFrame.wpList_want (by simp [Region.wanted, hg]) fun _ hK2 => ?_
    refine wp_append_own w s x 40 hop base 24 i0 _ 32 32 Tryd.underlying40 hi hz0 hz1 hz2 (by simp [Value.cells]) (by decide) v ds.length (digC ds) hs hown.1 ad m c (digC es) hx (by rw [digC_length es hP.1, hl]) hcell (digC_one es) (by unfold maxLen; omega) (by omega) hbase ?_
    intro v' w' a1 a2 _
    refine hK2 _ _ (hK v' w' ⟨by rw [digC_app, List.length_append, hl]; exact a1, fun d hd => ?_⟩ ((Below.refl _ _).grown a2 hbase (fun k hk => (hown.1.lt k hk).1)))
    rcases List.mem_append.1 hd with h | h
    · exact hown.2 d h
    · exact hP.1 d h
set_option maxRecDepth 100000 in
set_option maxHeartbeats 20000000 in
theorem checks_walk (z : Int) (root : List UInt8) (n x : Int) (la : Option Addr) (ln lc : Nat) (lb : List UInt8) (pa : Option Addr) (pn pc : Nat) (ds : List (List UInt8)) (w : World) (hK : WW w 0 ks) (h0 : 0 < w.heap.size) (hz : -9223372036854775808 ≤ z ∧ z ≤ 9223372036854775807) (hroot : root.length = 32) (hn : n ≤ 9223372036854775807)
    (hB : Bytes w la ln lb) (hl0 : la = none → lc = 0) (hlc : ln ≤ lc) (hP : PathV w pa ds) (hpl : ds.length = pn) (hpc : pn ≤ pc) (hpm : pc ≤ 9223372036854775807) (hp0 : pa = none → pc = 0) :
    Calls Tryd.prog 5 #[.int .i64 z, dv root, .int .i64 n, .int .i64 x, .slice la ln lc, .slice pa pn pc] w fun e w' => e = .returned (.bool true) ∧ Below w.heap.size w w' := by
  have HKW : Hid (∀ W, Below w.heap.size w W → WW W 0 ks ∧ 0 < W.heap.size) := fun W hW => ⟨hK.below hW h0, Nat.lt_of_lt_of_le h0 hW.size⟩
  have HSH : Hid (∀ W, Below w.heap.size w W → Calls Tryd.prog 20 #[] W fun e w' => e = .returned (.bool true) ∧ Below W.heap.size W w') := fun W hW => shown_any W (hK.below hW h0) (Nat.lt_of_lt_of_le h0 hW.size)
  obtain ⟨m, HM⟩ : ∃ m : Nat, Hid (min pn 70 = m) := ⟨_, rfl⟩
  have hm : min (pn : Int) 70 = (m : Int) := by have := HM.out; omega
  obtain ⟨k, HKD⟩ : ∃ m : Nat, Hid (min ln 200 = m) := ⟨_, rfl⟩
  have hk : min (ln : Int) 200 = (k : Int) := by have := HKD.out; omega
  have hmc : (m : Int) ≤ (pc : Int) := by have := HM.out; omega
  have hkc : (k : Int) ≤ (lc : Int) := by have := HKD.out; omega
  have HMB : Hid (m ≤ 70 ∧ k ≤ 200 ∧ m ≤ pc ∧ pc ≤ 9223372036854775807) := by show _ ∧ _ ∧ _ ∧ _; have := HM.out; have := HKD.out; omega
  obtain ⟨P, HPD⟩ : ∃ P, Hid (ds.take m = P) := ⟨_, rfl⟩
  obtain ⟨B, HBD⟩ : ∃ P, Hid (lb.take k = P) := ⟨_, rfl⟩
  have HPL : Hid (P.length = m) := by show _ = _; rw [← HPD.out, List.length_take]; have := HM.out; omega
  have HPV : Hid (∀ W, Below w.heap.size w W → PathV W pa P) := fun W hW => by rw [← HPD.out]; exact (hP.below hW (Nat.le_refl _)).take m
  have HBY : Hid (∀ W, Below w.heap.size w W → Bytes W la k B) := fun W hW => by rw [← HBD.out]; exact bytes_take (bytes_kept hB hW (Nat.le_refl _)) k (by have := HKD.out; omega)
  have HL0 : Hid ((la = none → lc = 0) ∧ (pa = none → pc = 0)) := ⟨hl0, hp0⟩
  have HZ : Hid (-9223372036854775808 ≤ z ∧ z ≤ 9223372036854775807) := hz
  have HNX : Hid (n ≤ 9223372036854775807) := hn
  have HRL : Hid (root.length = 32) := hroot
  have HIR : Hid ((Tryd.prog.info? 24).map (·.size) = some (cellsOf root).toArray.size) := by show _ = _; rw [size24, dig_size hroot]
  obtain ⟨q, HQ⟩ : ∃ q : ByteArray, Hid ((⟨B.toArray⟩ : ByteArray) = q) := ⟨_, rfl⟩
  have HQB : Hid (strB q = B) := by show _ = _; rw [← HQ.out]; exact strB_mk B
  have HQS : Hid (q.size ≤ 1000) := by
    show _ ≤ _
    have h1 := HMB.out
    rw [← strB_length, HQB.out, ← HBD.out, List.length_take]
    omega
  obtain ⟨r1, HR1⟩ : ∃ b, Hid (ckB z root n x B P = b) := ⟨_, rfl⟩
  obtain ⟨r2, HR2⟩ : ∃ b, Hid (ckB 256 root n x B P = b) := ⟨_, rfl⟩
  have C1 : Hid (∀ W ao c, Below w.heap.size w W → PathV W ao P → m ≤ c → c ≤ 9223372036854775807 → Calls Tryd.prog 40 #[.agg #[.int .i64 z], .agg (cellsOf root).toArray, .int .i64 n, .int .i64 x, .slice la k lc, .slice ao m c] W fun e w' => e = .returned (.bool r1) ∧ Below W.heap.size W w') := fun W ao c hW hp h1 h2 => by
    have h := check_any z root n x la k lc B ao m c P W HRL.out HNX.out HPL.out h1 h2 hp (HBY.out W hW) HL0.out.1 (by have := HMB.out; omega) (HKW.out W hW).1 (HKW.out W hW).2 HZ.out
    rw [HR1.out] at h; exact h
  have C2 : Hid (∀ W ao c, Below w.heap.size w W → PathV W ao P → m ≤ c → c ≤ 9223372036854775807 → Calls Tryd.prog 41 #[.agg (cellsOf root).toArray, .int .i64 n, .int .i64 x, .slice la k lc, .slice ao m c] W fun e w' => e = .returned (.bool r2) ∧ Below W.heap.size W w') := fun W ao c hW hp h1 h2 => by
    have h := checkN_any root n x la k lc B ao m c P W HRL.out HNX.out HPL.out h1 h2 hp (HBY.out W hW) HL0.out.1 (by have := HMB.out; omega) (HKW.out W hW).1 (HKW.out W hW).2
    rw [HR2.out] at h; exact h
  have C3 : Hid (∀ W, Below w.heap.size w W → Calls Tryd.prog 42 #[.int .i64 z, .agg (cellsOf root).toArray, .int .i64 n, .int .i64 x, .string q, .slice pa m pc] W fun e w' => e = .returned (.bool r1) ∧ Below W.heap.size W w') := fun W hW => by
    have h := refCheck_any z root n x q pa m pc P W HRL.out HNX.out HPL.out (by have := HMB.out; omega) HMB.out.2.2.1 (HPV.out W hW) HQS.out HZ.out
    rw [HQB.out, HR1.out] at h; exact h
  have C4 : Hid (∀ W, Below w.heap.size w W → Calls Tryd.prog 42 #[.int .i64 256, .agg (cellsOf root).toArray, .int .i64 n, .int .i64 x, .string q, .slice pa m pc] W fun e w' => e = .returned (.bool r2) ∧ Below W.heap.size W w') := fun W hW => by
    have h := refCheck_any 256 root n x q pa m pc P W HRL.out HNX.out HPL.out (by have := HMB.out; omega) HMB.out.2.2.1 (HPV.out W hW) HQS.out z256
    rw [HQB.out, HR2.out] at h; exact h
  have HSTR : Hid (∀ W, Below w.heap.size w W → (convert 36 9 (.slice la k lc)).run Tryd.prog W = .ok (.string q) W) := fun W hW => by rw [← HQ.out]; exact str_bytes lc (HBY.out W hW)
  clear hK h0 hz hroot hn hB hl0 hlc hP hpl hpc hpm hp0
  unfold dv
  obtain ⟨cr, HCR⟩ : ∃ c, Hid ((cellsOf root).toArray = c) := ⟨_, rfl⟩
  rw [HCR.out] at HIR C1 C2 C3 C4 ⊢
  go_enter Tryd.func5, Tryd.ntmps5
  have HN0 : Hid ((w.alloc (.cells cr 24)).heap[w.heap.size]? = some (.cells cr 24 (0, 0))) := heap_alloc_new w _
  have HB0 : Hid (Below w.heap.size w (w.alloc (.cells cr 24))) := bel_alloc w _
  go_wp2_with fail
  refine (HSH.out _ HB0.out).mono ?_
  rintro e w1 ⟨rfl, hb1⟩
  have HB1 : Hid (Below w.heap.size w w1) := HB0.out.trans (hb1.mono HB0.out.size)
  have HN1 : Hid (w1.heap[w.heap.size]? = some (.cells cr 24 (0, 0))) := (hb1.block _ (Array.getElem?_eq_some_iff.1 HN0.out).1).trans HN0.out
  clear hb1 HSH HN0 HB0
  obtain ⟨w3, HW3⟩ : ∃ W, Hid ((w1.alloc (Obj.cells #[Value.int IntKind.i64 z] 30)).alloc (.cells #[] 24) = W) := ⟨_, rfl⟩
  have HF := frame2 w1 (Obj.cells #[Value.int IntKind.i64 z] 30) #[] 24
  rw [HW3.out] at HF
  have HFH : Hid _ := HF
  have HB3 : Hid (Below w.heap.size w w3) := HB1.out.trans (HFH.out.2.2.1.mono HB1.out.size)
  have HO3 : Hid (DgO w3 (w1.heap.size + 1) (.slice (some ⟨w1.heap.size + 1, 0, none⟩) 0 0) []) := by
    refine ⟨⟨rfl, .inr ⟨w1.heap.size + 1, 0, #[], rfl, Nat.le_refl _, HFH.out.2.1, Nat.le_refl _, by unfold maxLen; omega, rfl, rfl⟩⟩, fun d hd => by simp at hd⟩
  have HPV3 : Hid (PathV w3 pa P) := HPV.out _ HB3.out
  have HSZ3 : Hid (w1.heap.size + 1 ≤ w3.heap.size) := by show _ ≤ _; rw [HFH.out.2.2.2]; omega
  have HO3' := HO3.out
  rw [← HW3.out] at HO3'
  have HO3P : Hid _ := HO3'
  have HPV3' := HPV3.out
  rw [← HW3.out] at HPV3'
  have HPV3P : Hid _ := HPV3'
  have HSZ3' := HSZ3.out
  rw [← HW3.out] at HSZ3'
  have HSZ3P : Hid _ := HSZ3'
  clear HF HO3' HPV3' HSZ3'
  go_wp2_with (at_builtin; refine wpList_append_path _ rfl (.tmp 32) (.tmp 33) rfl (w1.heap.size + 1) _ [] rfl HO3P.out HSZ3P.out pa m pc P rfl HPV3P.out HPL.out HL0.out.2 (by have := HPL.out; have := HMB.out; simp; omega) ?_)
  rw [HW3.out]
  intro v5 w5 hd5 hb5
  obtain ⟨ao5, c5, hv5, h51, h52, hp5⟩ := hd5.path
  rw [HPL.out] at hv5 h51
  obtain rfl := hv5
  have HB35 : Hid (Below (w1.heap.size + 1) w3 w5) := hb5
  have HB5 : Hid (Below w.heap.size w w5) := HB3.out.trans (hb5.mono (by have := HB1.out.size; omega))
  have HC5 : Hid (m ≤ c5 ∧ c5 ≤ 9223372036854775807) := ⟨h51, h52⟩
  have HP5 : Hid (PathV w5 ao5 P) := hp5
  have HZ5 : Hid (w5.cell? ⟨w1.heap.size, 0, none⟩ = some (.int .i64 z)) := by
    show _ = _
    rw [HB35.out.cell (p := ⟨w1.heap.size, 0, none⟩) (by show w1.heap.size < w1.heap.size + 1; omega), cell_of_row w3 _ 0 _ _ _ HFH.out.1]; rfl
  have HN3 : Hid (w3.heap[w.heap.size]? = some (.cells cr 24 (0, 0))) := (HFH.out.2.2.1.block _ (Array.getElem?_eq_some_iff.1 HN1.out).1).trans HN1.out
  have HN5 : Hid (w5.heap[w.heap.size]? = some (.cells cr 24 (0, 0))) := (HB35.out.block _ (Nat.lt_of_lt_of_le (Array.getElem?_eq_some_iff.1 HN1.out).1 (by omega))).trans HN3.out
  clear hd5 hb5 hp5 h51 h52 hm hk hmc hkc HW3 HO3P HPV3P HSZ3P
  have hz5 := HZ5.out
  go_wp2_with (refine wpList_load_row rfl 24 (.tmp 7) rfl w.heap.size rfl 24 cr (0, 0) _ HN5.out Tryd.underlying24 rfl HIR.out ?_)
  refine (C1.out _ _ _ HB5.out HP5.out HC5.out.1 HC5.out.2).mono ?_
  rintro e w6 ⟨rfl, hb6⟩
  have HB6 : Hid (Below w.heap.size w w6) := HB5.out.trans (hb6.mono HB5.out.size)
  have HX6 : Hid (Below w5.heap.size w5 w6) := hb6
  have HN6 : Hid (w6.heap[w.heap.size]? = some (.cells cr 24 (0, 0))) := (hb6.block _ (Array.getElem?_eq_some_iff.1 HN5.out).1).trans HN5.out
  clear hb6 hz5
  go_wp2_with (refine wpList_load_row rfl 24 (.tmp 7) rfl w.heap.size rfl 24 cr (0, 0) _ HN6.out Tryd.underlying24 rfl HIR.out ?_)
  refine (C2.out _ _ _ HB6.out (HP5.out.below HX6.out (Nat.le_refl _)) HC5.out.1 HC5.out.2).mono ?_
  rintro e w7 ⟨rfl, hb7⟩
  have HB7 : Hid (Below w.heap.size w w7) := HB6.out.trans (hb7.mono HB6.out.size)
  have HX7 : Hid (Below w5.heap.size w5 w7) := HX6.out.trans (hb7.mono HX6.out.size)
  have HN7 : Hid (w7.heap[w.heap.size]? = some (.cells cr 24 (0, 0))) := (hb7.block _ (Array.getElem?_eq_some_iff.1 HN6.out).1).trans HN6.out
  clear hb7
  have HSM : Hid (Calls Tryd.prog 37 #[.slice ao5 m c5, .slice pa m pc] w7 fun e w' => e = .returned (.bool true) ∧ Below w7.heap.size w7 w') := by
    have h := same_any ao5 c5 P pa pc P w7 (HP5.out.below HX7.out (Nat.le_refl _)) (HPV.out _ HB7.out) (by rw [HPL.out]; have := HMB.out; omega)
    rw [beq_self_eq_true, HPL.out] at h
    exact h
  go_wp2_with fail
  refine Calls.mono HSM.out ?_
  rintro e w8 ⟨rfl, hb8⟩
  have HB8 : Hid (Below w.heap.size w w8) := HB7.out.trans (hb8.mono HB7.out.size)
  have HN8 : Hid (w8.heap[w.heap.size]? = some (.cells cr 24 (0, 0))) := (hb8.block _ (Array.getElem?_eq_some_iff.1 HN7.out).1).trans HN7.out
  have hst8 := HSTR.out w8 HB8.out
  clear hb8
  go_wp2_with (refine wpList_load_rowG (by rfl) 24 (.tmp 7) rfl w.heap.size rfl 24 cr (0, 0) _ HN8.out Tryd.underlying24 rfl HIR.out ?_)
  refine (C3.out _ HB8.out).mono ?_
  rintro e w9 ⟨rfl, hb9⟩
  have HB9 : Hid (Below w.heap.size w w9) := HB8.out.trans (hb9.mono HB8.out.size)
  have HN9 : Hid (w9.heap[w.heap.size]? = some (.cells cr 24 (0, 0))) := (hb9.block _ (Array.getElem?_eq_some_iff.1 HN8.out).1).trans HN8.out
  have hst9 := HSTR.out w9 HB9.out
  clear hb9 hst8
  go_wp2_with (refine wpList_load_rowG (by rfl) 24 (.tmp 7) rfl w.heap.size rfl 24 cr (0, 0) _ HN9.out Tryd.underlying24 rfl HIR.out ?_)
  refine (C4.out _ HB9.out).mono ?_
  rintro e wz ⟨rfl, hbz⟩
  have HBZ : Hid (Below w.heap.size w wz) := HB9.out.trans (hbz.mono HB9.out.size)
  clear hbz hst9
  go_wp2_with fail
  go_ret
  exact ⟨rfl, HBZ.out⟩
end Go.Proofs.YtaebpnednhkfhaaDoor

/-
  What table's blocks goes through: a contract over this translation.
-/
import Derived.Test.YtcgjhopfdpaocaaDoorTbF
import Derived.Test.YtcgjhopfdpaocaaDoorPartBI
import Derived.Test.YtcgjhopfdpaocaaDoorPartBB
namespace Go.Proofs.YtcgjhopfdpaocaaDoor
open Go.RowKit Go.Sort Go.Shelf
set_option linter.unusedSectionVars false
variable [Inhabited E] [DecidableEq E]
attribute [local go_sem] Oper.semAt_some
theorem blocks_new (ao : Option Addr) (n c : Nat) (w : World) : Calls Tryd.prog 31 #[.slice ao n c] w fun e w' => e = .returned (.func (.func 61) #[] #[.pointer (some ⟨w.heap.size, 0, none⟩)]) ∧ w' = w.alloc (.cells #[.slice ao n c] 22) := by
  have hmf : ∀ (fn : Fn) (first cap : Array Value) (w : World), (Instr.makeFunc fn first cap).run Tryd.prog w = .ok (.func fn first cap) w := fun _ _ _ _ => rfl
  go_enter Tryd.func31, Tryd.ntmps31
  go_wp2_with fail
  go_ret
  exact ⟨rfl, rfl⟩
/-- What a round keeps: all below n0, and all blocks of one kind. -/
structure KT (t n0 : Nat) (W W' : World) : Prop where
  bel : Below n0 W W'
  kind : ∀ (k : Nat) (cur : Array Value) (fr : Nat × Nat), W.heap[k]? = some (Obj.cells cur t fr) → W'.heap[k]? = some (Obj.cells cur t fr)
theorem KT.trans {t n0 : Nat} {A B C : World} (h : KT t n0 A B) (k : KT t n0 B C) : KT t n0 A C := ⟨h.bel.trans k.bel, fun i c f hi => k.kind i c f (h.kind i c f hi)⟩
theorem KT.refl (t n0 : Nat) (W : World) : KT t n0 W W := ⟨Below.refl _ _, fun _ _ _ h => h⟩
theorem KT.of_below {t n0 B : Nat} {W W' : World} (h : Below B W W') (hB : W.heap.size ≤ B) (hn : n0 ≤ B) : KT t n0 W W' :=
  ⟨h.mono hn, fun k _ _ hk => (h.block k (Nat.lt_of_lt_of_le (Array.getElem?_eq_some_iff.1 hk).1 hB)).trans hk⟩
theorem KT.box {t n0 B : Nat} {W W' : World} {v : Value} (h : KT t n0 W W') (hb : Boxed W B t v) : Boxed W' B t v := h.kind _ _ _ hb
theorem KT.put {t n0 : Nat} (W : World) (l : Nat) (o o' : Obj) (hl : n0 ≤ l) (ho : W.heap[l]? = some o) (hc : o.isCells = false) : KT t n0 W (W.putObj l o') := by
  refine ⟨below_put (Below.refl _ _) l o' hl, fun k cur fr hk => ?_⟩
  have hne : k ≠ l := fun e => by subst e; rw [ho] at hk; cases hk; cases hc
  exact (World.putObj_heap_other hne).trans hk
theorem KT.set {t n0 : Nat} {W : World} {B : Nat} {t2 : TypeId} {u : Value} (h : Boxed W B t2 u) (ht : t2 ≠ t) (hB : n0 ≤ B) (v : Value) : KT t n0 W (W.setCell ⟨B, 0, none⟩ v) := by
  refine ⟨(Below.refl _ _).setCell (p := ⟨B, 0, none⟩) hB v, fun k cur fr hk => ?_⟩
  have hne : k ≠ B := fun e => by
    subst e
    have h2 : W.heap[k]? = some (.cells #[u] t2 (0, 0)) := h
    rw [h2] at hk; cases hk; exact ht rfl
  exact (heap_set_far W B k v hne).trans hk
/-- What blocks hands out at a time. -/
def OkB (es : List E) (pre : List (ByteArray × SV)) (x : ByteArray × SV) (W : World) : Prop :=
  pre.length < nT es ∧ x.1 = keyT es pre.length ∧ x.2.bs = blkT es pre.length ∧ Bytes W x.2.ao x.2.n x.2.bs ∧ x.2.fine
theorem ents_low {w w' : World} {ao : Option Addr} {n n0 : Nat} {es : List E} (h : EntsV w ao n es) (hb : Below n0 w w') (hlow : ∀ x, ao = some x → x.block < n0) : EntsV w' ao n es := by
  refine ⟨h.1, fun hn => ?_⟩
  obtain ⟨b, off, hao, he⟩ := h.2 hn
  refine ⟨b, off, hao, fun j u hu => ?_⟩
  rw [← he j u hu]
  exact World.cell?_of_block (hb.block b (hlow _ hao))
set_option maxRecDepth 100000 in
set_option maxHeartbeats 4000000 in
theorem blocks_in (l Bn n0 : Nat) (b off n c : Nat) (es : List E) (hf : fitB es = true) (hnc : n ≤ c)
    (J Jx : List (ByteArray × SV) → World → Prop) (hJ : AbNew J)
    (hY : ∀ pre x W1, J pre W1 → OkB es pre x W1 → YieldAt Fence.wide 1 Tryd.prog l #[.string x.1, .slice x.2.ao x.2.n x.2.c] W1 fun e W' => KT 22 n0 W1 W' ∧ ((e = .returned (.bool true) ∧ J (pre ++ [x]) W') ∨ (e = .returned (.bool false) ∧ Jx (pre ++ [x]) W')))
    (W : World) (hBn : Boxed W Bn 22 (.slice (some ⟨b, off, none⟩) n c)) (hE : EntsV W (some ⟨b, off, none⟩) n es) (hlow : b < n0) (hn0 : n0 ≤ W.heap.size) (h0 : J [] W) :
    CallsIn Fence.wide 2 Tryd.prog 61 #[.func (.yield l) #[] #[], .pointer (some ⟨Bn, 0, none⟩)] W fun e W' => (∃ v, e = .returned v) ∧ ((∃ xs, J xs W' ∧ xs.length = nT es) ∨ ∃ xs, Jx xs W' ∧ True) := by
  refine callsIn_of_wp Tryd.func61 rfl trivial ?_ rfl
  simp only [Tryd.ntmps61, List.size_toArray, List.length_cons, List.length_nil, Nat.reduceAdd, Nat.reduceSub, Array.replicate_succ, Array.replicate_zero, List.push_toArray, List.append_toArray, List.nil_append, List.cons_append]
  have HE : Hid (EntsV W (some ⟨b, off, none⟩) n es) := hE
  have HJ : Hid (AbNew J) := hJ
  have HY : Hid _ := hY
  have H0 : Hid (J [] W) := h0
  have hln := hE.1
  have HLN : Hid (es.length = n) := hln
  have HF : Hid (fitB es = true) := hf
  have HBN : Hid (Boxed W Bn 22 (.slice (some ⟨b, off, none⟩) n c)) := hBn
  have HLOW : Hid (∀ x, some (⟨b, off, none⟩ : Addr) = some x → x.block < n0) := fun x hx => by cases hx; exact hlow
  have h64 : n ≤ 64 := by have := (fit_len hf).2; omega
  clear hE hJ hY h0 hf hBn hln hlow
  gi_wp2
  gi_loopw [3, 4, 5, 6] (fun s _ _ _ wr => ∃ (pre : List (ByteArray × SV)) (k : Nat), s = .int .i64 (16 * (k : Int)) ∧ k ≤ 5 ∧ Hid (pre.length = k) ∧ Hid (k ≤ nT es) ∧ Hid (J pre wr) ∧ Hid (KT 22 n0 W wr))
    (fun s _ _ _ wr => 200 - (intOf s).toNat)
  case atStart => exact ⟨[], 0, rfl, by omega, rfl, Nat.zero_le _, H0.out, KT.refl _ _ _⟩
  case round =>
    obtain ⟨pre, k, rfl, hk5, HPL, HKN, HJP, HK⟩ := hrel
    have hbx := HK.out.box HBN.out
    have hcell := hbx.cell
    have hK4 : k ≤ 4 := Nat.le_trans HKN.out (nT_le HF.out).2
    by_cases hlt : 16 * k < n
    · have hltz : (16 * (k : Int)) < (n : Int) := by omega
      have hkn : k < nT es := nT_lt.2 (by rw [HLN.out]; exact hlt)
      obtain ⟨hi, hhi⟩ : ∃ hi, min (16 * k + 16) n = hi := ⟨_, rfl⟩
      have hmin : min (16 * (k : Int) + 16) (n : Int) = (hi : Int) := by omega
      have hle1 : (16 * (k : Int)) ≤ (hi : Int) := by omega
      have hle2 : (hi : Int) ≤ (c : Int) := by omega
      have hle3 : (hi : Int) ≤ (n : Int) := by omega
      have hne : ¬ (c = 16 * k) := by omega
      have HEV : Hid (EntsV wr (some ⟨b, off + 16 * k * 4, none⟩) (hi - 16 * k) (chunk es k)) := by
        have h1 := (ents_low HE.out HK.out.bel HLOW.out).drop (16 * k) (by omega)
        have h2 := h1.take (hi - 16 * k) (by omega)
        have h3 : (es.drop (16 * k)).take (hi - 16 * k) = chunk es k := by
          unfold chunk
          by_cases h16 : 16 * k + 16 ≤ n
          · rw [show hi - 16 * k = 16 from by omega]
          · have hl : (es.drop (16 * k)).length = n - 16 * k := by rw [List.length_drop, HLN.out]
            rw [List.take_of_length_le (by omega), List.take_of_length_le (by omega)]
        rw [h3] at h2; exact h2
      have HFC : Hid (fitB (chunk es k) = true) := fit_chunk HF.out hkn
      have HCB : Hid _ := blockBytes_some (some ⟨b, off + 16 * k * 4, none⟩) (hi - 16 * k) (c - 16 * k) (chunk es k) wr HEV.out (right_small (fit_all HFC.out)) HFC.out
      have hkey : wr.cell? ⟨b, off + 16 * k * 4, none⟩ = some (.string (keyT es k)) := by
        obtain ⟨k0, v0, d0, q0, hX⟩ : ∃ k0 v0 d0 q0, es[16 * k]! = E.mk k0 v0 d0 q0 := ⟨_, _, _, _, rfl⟩
        have h1 := ents_low HE.out HK.out.bel HLOW.out
        obtain ⟨b', off', hao, hEn⟩ := h1.2 (by omega)
        cases hao
        have h2 := (ents_four hEn (16 * k) (by rw [HLN.out]; exact hlt) hX).1
        unfold keyT
        rw [hX]
        exact h2
      clear hhi
      gi_wp2
      refine ⟨trivial, (callsIn_wide.2 HCB.out).mono ?_⟩
      rintro e w1 ⟨v1, rfl, hown1, hb1⟩
      obtain ⟨m, HM⟩ : ∃ m, Hid ((blockB (chunk es k)).length = m) := ⟨_, rfl⟩
      rw [HM.out] at hown1
      obtain ⟨ao1, c1, rfl, hby1, h01, hlc1, hcm1, -, -⟩ := own_bytes hown1
      obtain ⟨x, HX⟩ : ∃ x : ByteArray × SV, Hid (x = (keyT es k, ⟨ao1, m, c1, blkT es k⟩)) := ⟨_, rfl⟩
      have HO : Hid (OkB es pre (keyT es k, ⟨ao1, m, c1, blkT es k⟩) w1) := ⟨by rw [HPL.out]; exact hkn, by rw [HPL.out], by rw [HPL.out], hby1, h01, hlc1, by unfold maxLen at hcm1; exact hcm1⟩
      have HB1 : Hid (Below wr.heap.size wr w1) := hb1
      obtain ⟨fn, tmps, assign, body, hy, hR⟩ := HY.out pre (keyT es k, ⟨ao1, m, c1, blkT es k⟩) w1 (HJ.out _ _ _ HJP.out hb1) HO.out
      dsimp only at hy
      have hkey1 := bel_cell hb1 (Nat.le_refl _) hkey
      have hpos : (0 : Int) < ((hi - 16 * k : Nat) : Int) := by omega
      have HK1 : Hid (KT 22 n0 W w1) := HK.out.trans (KT.of_below hb1 (Nat.le_refl _) (Nat.le_trans hn0 HK.out.bel.size))
      clear hown1 hby1 h01 hlc1 hcm1 hb1 hkey HCB
      gi_wp2
      refine RoundIn.mono hR ?_
      clear hR
      rintro e W3 ⟨hk3, ⟨rfl, hJ3⟩ | ⟨rfl, hJ3⟩⟩
      · have HN : Hid (J (pre ++ [(keyT es k, ⟨ao1, m, c1, blkT es k⟩)]) W3 ∧ KT 22 n0 W W3) := ⟨hJ3, HK1.out.trans hk3⟩
        clear hk3 hJ3
        gi_wp2
        go_roundw
        case rel => exact ⟨_, k + 1, by go_num, by omega, by show _ = _; rw [List.length_append, HPL.out]; rfl, hkn, HN.out.1, HN.out.2⟩
        case measure => simp [intOf]; omega
      · have HN : Hid (Jx (pre ++ [(keyT es k, ⟨ao1, m, c1, blkT es k⟩)]) W3) := hJ3
        clear hk3 hJ3
        gi_wp2
        refine bodyPost_ret (results_none rfl _ _ _) rfl ?_
        exact ⟨⟨_, rfl⟩, .inr ⟨_, HN.out, trivial⟩⟩
    · have hltz : ¬ (16 * (k : Int)) < (n : Int) := by omega
      have HE2 : Hid (k = nT es) := by
        show _ = _
        have h1 : ¬ k < nT es := fun h => hlt (by have := nT_lt.1 h; rw [HLN.out] at this; exact this)
        have := HKN.out
        omega
      gi_wp2
      refine bodyPost_end (results_none rfl _ _ _) rfl ?_
      exact ⟨⟨_, rfl⟩, .inl ⟨pre, HJP.out, by rw [HPL.out, HE2.out]⟩⟩
end Go.Proofs.YtcgjhopfdpaocaaDoor

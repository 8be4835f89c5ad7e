/-
  disk's write: what each call that writes does first.
-/
import Derived.Test.YtomeghngjiaofaaDkM
namespace Go.Proofs.Ytomeghngjiaofaa
open Go.RowKit
theorem Dk.crash_arm {A : Dk} (h : A.down = false) (n k k' : Int) : (A.arm n k').crash k = A.crash k := by
  unfold Dk.crash Dk.arm
  simp [h]
section
variable {own : Nat → Prop} {w : World} {g : Nat} {A : Dk} {m n : Nat} {uo : Option Addr} {uc : Nat} {blk : Nat → Nat} {bv : Nat → Value}
theorem DiskIn.armed (h : DiskIn own w g A m n uo uc blk bv) (l : Int) : DiskIn own (w.setCell ⟨g, 5, none⟩ (.int .i64 l)) g (A.arm l A.keep) m n uo uc blk bv := by
  refine h.turn rfl rfl (fun k _ hk => heap_set_ne _ _ _ hk) ?_
  rw [heap_set h.cells]; rfl
set_option maxRecDepth 100000 in
theorem write_at {N : Nat} (h : DiskAt own w g A N) (hN : N ≤ 1000000) (ao : Option Addr) (k c b off : Nat) (ts : List ByteArray) (ht : ∀ j s, ts[j]? = some s → w.cell? ⟨b, off + j, none⟩ = some (.string s)) (hn : ts.length = k) (hao : 0 < k → ao = some ⟨b, off, none⟩) (hsm : k ≤ 1000) (hb : ¬ own b) (hbl : b < w.heap.size) :
    Calls Try.prog 47 #[.pointer (some ⟨g, 0, none⟩), .slice ao k c] w fun e w' => e = .returned (.int .i64 (chk A.pre.down ts)) ∧ DiskAt (grow own w) w' g A.pre N ∧ Only own w w' := by
  obtain ⟨hwf, hpl, m, n, uo, uc, blk, bv, hnN, h⟩ := h
  by_cases hidle : A.down = false ∧ 0 < A.left
  · obtain ⟨hd, hl⟩ := hidle
    have c4 := h.c4
    rw [hd] at c4
    have c5 := h.c5
    have c6 := h.c6
    have f5 := fz_of h.cells 5
    have hli := hwf.leftI
    obtain ⟨l1, HL1⟩ : ∃ l1, Hid (A.left - 1 = l1) := ⟨_, rfl⟩
    have hw1 : wrap64 (A.left - 1) = l1 := by
      rw [HL1.out]
      have := HL1.out
      unfold wrap64
      omega
    have hgb : b ≠ g := fun e => hb (e ▸ h.og)
    have HA : Hid (DiskIn own (w.setCell ⟨g, 5, none⟩ (.int .i64 l1)) g (A.arm l1 A.keep) m n uo uc blk bv) := h.armed l1
    have HO : Hid (Only own w (w.setCell ⟨g, 5, none⟩ (.int .i64 l1))) := (Only.refl own w).setCell (.inl h.og) _
    have ht1 : ∀ j s, ts[j]? = some s → (w.setCell ⟨g, 5, none⟩ (.int .i64 l1)).cell? ⟨b, off + j, none⟩ = some (.string s) := fun j s hs => (World.cell?_of_block (heap_set_ne w 5 _ hgb)).trans (ht j s hs)
    have HGS : Hid ((w.setCell ⟨g, 5, none⟩ (.int .i64 l1)).heap.size = w.heap.size) := by show _ = _; simp [World.setCell]
    by_cases h1 : A.left = 1
    · have hl0 : l1 = 0 := by have := HL1.out; omega
      have hp : A.pre = (A.arm l1 A.keep).crash A.keep := by
        rw [Dk.crash_arm hd]
        unfold Dk.pre
        rw [if_pos ⟨hd, hl⟩, if_pos h1]
      have HC : Hid _ := crash_at HA.out (hwf.arm l1 A.keep (by omega) hwf.keepB) A.keep hwf.keepB (Nat.le_trans hpl hN)
      have HWF : Hid A.pre.wf := hwf.pre
      have HP : Hid (A.pre = (A.arm l1 A.keep).crash A.keep) := hp
      have HT1 : Hid (∀ j s, ts[j]? = some s → (w.setCell ⟨g, 5, none⟩ (.int .i64 l1)).cell? ⟨b, off + j, none⟩ = some (.string s)) := ht1
      have HB : Hid (¬ own b) := hb
      have HBL : Hid (b < w.heap.size) := hbl
      have HN : Hid (ts.length = k) := hn
      have HAO : Hid (0 < k → ao = some ⟨b, off, none⟩) := hao
      have HSM : Hid (k ≤ 1000) := hsm
      have HD : Hid (A.down = false) := hd
      have HNN : Hid (n ≤ N) := hnN
      clear h hli ht ht1 h1 hwf hp hn hao hsm hb hbl hd hpl hnN hN hgb
      subst hl0
      obtain ⟨z, HZ⟩ : ∃ z, Hid (chk A.pre.down ts = z) := ⟨_, rfl⟩
      rw [HZ.out]
      go_enter Try.func47, Try.ntmps47
      go_wp2_with fail
      refine Calls.mono HC.out ?_
      rintro e w2 ⟨rfl, ⟨uo2, uc2, bv2, hd2⟩, ho2⟩
      have hcr : (A.arm 0 A.keep).crash A.keep = A.pre := HP.out.symm
      rw [hcr] at hd2
      have hb2 : w2.heap[b]? = (w.setCell ⟨g, 5, none⟩ (.int .i64 0)).heap[b]? := ho2.block b (by rw [HGS.out]; exact HBL.out) HB.out
      have HC2 : Hid _ := dcheck_any g A.pre.down ao k c b off ts w2 hd2.c4 (fun j s hs => (World.cell?_of_block hb2).trans (HT1.out j s hs)) HN.out HAO.out HSM.out
      have HD2 : Hid (DiskIn (grow own (w.setCell ⟨g, 5, none⟩ (.int .i64 0))) w2 g A.pre m n uo2 uc2 blk bv2) := hd2
      have HO2 : Hid (Only own w w2) := HO.out.trans ho2 (fun _ e => .inl e)
      rw [HZ.out] at HC2
      clear hd2 ho2 hb2 hcr c4 c5 c6 f5 hw1 hl
      go_wp2_with fail
      refine Calls.mono HC2.out ?_
      rintro e w3 ⟨rfl, rfl⟩
      go_wp2_with fail
      go_ret
      refine ⟨rfl, ⟨HWF.out, ?_, m, n, uo2, uc2, blk, bv2, HNN.out, HD2.out.mono (fun i _ e => ?_)⟩, HO2.out⟩
      · have e1 : A.pre.pcs = [] := by rw [HP.out, Dk.crash_arm HD.out]; unfold Dk.crash; rw [HD.out]; rfl
        rw [e1]; exact Nat.zero_le _
      · rcases e with e | e
        · exact .inl e
        · rw [HGS.out] at e; exact .inr e
    · have hl0 : ¬ l1 = 0 := by have := HL1.out; omega
      have hp : A.pre = A.arm l1 A.keep := by
        unfold Dk.pre
        rw [if_pos ⟨hd, hl⟩, if_neg h1, HL1.out]
      have HWF : Hid A.pre.wf := hwf.pre
      have HP : Hid (A.pre = A.arm l1 A.keep) := hp
      have HC2 : Hid _ := dcheck_any g false ao k c b off ts (w.setCell ⟨g, 5, none⟩ (.int .i64 l1)) (by have := HA.out.c4; rw [show (A.arm l1 A.keep).down = A.down from rfl, hd] at this; exact this) ht1 hn hao hsm
      have HPD : Hid (A.pre.down = false) := by show _ = _; rw [hp]; exact hd
      have HNN : Hid (n ≤ N) := hnN
      have HPL : Hid (A.pcs.length ≤ N) := hpl
      rw [HPD.out]
      obtain ⟨z, HZ⟩ : ∃ z, Hid (chk false ts = z) := ⟨_, rfl⟩
      rw [HZ.out] at HC2 ⊢
      clear h hli ht ht1 h1 hwf hp hn hao hsm hb hbl hd hpl hnN hN hgb c6
      go_enter Try.func47, Try.ntmps47
      go_wp2_with fail
      refine Calls.mono HC2.out ?_
      rintro e w3 ⟨rfl, rfl⟩
      go_wp2_with fail
      go_ret
      refine ⟨rfl, ⟨HWF.out, ?_, m, n, uo, uc, blk, bv, HNN.out, ?_⟩, HO.out⟩
      · rw [HP.out]; exact HPL.out
      · rw [HP.out]; exact HA.out.mono (fun _ _ e => .inl e)
  · have hp : A.pre = A := by unfold Dk.pre; rw [if_neg hidle]
    rw [hp]
    have HD : Hid (DiskIn own w g A m n uo uc blk bv) := h
    have HR : Hid (A.wf ∧ A.pcs.length ≤ N ∧ n ≤ N) := ⟨hwf, hpl, hnN⟩
    have c4 := h.c4
    have c5 := h.c5
    have HC2 : Hid _ := dcheck_any g A.down ao k c b off ts w h.c4 ht hn hao hsm
    clear h hwf hpl hnN ht hn hao hsm hb hbl hN hp
    cases hd : A.down with
    | true =>
      rw [hd] at c4 HC2
      obtain ⟨z, HZ⟩ : ∃ z, Hid (chk true ts = z) := ⟨_, rfl⟩
      rw [HZ.out] at HC2 ⊢
      clear c5 hidle
      go_enter Try.func47, Try.ntmps47
      go_wp2_with fail
      refine Calls.mono HC2.out ?_
      rintro e w3 ⟨rfl, rfl⟩
      go_wp2_with fail
      go_ret
      exact ⟨rfl, ⟨HR.out.1, HR.out.2.1, m, n, uo, uc, blk, bv, HR.out.2.2, HD.out.mono (fun _ _ e => .inl e)⟩, Only.refl _ _⟩
    | false =>
      have hl : ¬ 0 < A.left := fun e => hidle ⟨hd, e⟩
      rw [hd] at c4 HC2
      obtain ⟨z, HZ⟩ : ∃ z, Hid (chk false ts = z) := ⟨_, rfl⟩
      rw [HZ.out] at HC2 ⊢
      clear hidle
      go_enter Try.func47, Try.ntmps47
      go_wp2_with fail
      refine Calls.mono HC2.out ?_
      rintro e w3 ⟨rfl, rfl⟩
      go_wp2_with fail
      go_ret
      exact ⟨rfl, ⟨HR.out.1, HR.out.2.1, m, n, uo, uc, blk, bv, HR.out.2.2, HD.out.mono (fun _ _ e => .inl e)⟩, Only.refl _ _⟩
end
end Go.Proofs.Ytomeghngjiaofaa

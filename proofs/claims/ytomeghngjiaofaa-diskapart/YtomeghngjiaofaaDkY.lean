/-
  law07's alone: one step on one disk.
-/
import Derived.Test.YtomeghngjiaofaaDkT
namespace Go.Proofs.Ytomeghngjiaofaa
open Go.RowKit
abbrev opB (kd nn mm : Int) (nm dst : ByteArray) (bo : Option Addr) (bn bc : Nat) : Array Value := #[.int .i64 kd, .int .i64 nn, .int .i64 mm, .string nm, .string dst, .slice bo bn bc]
/-- A step, whatever its kind. -/
def Dk.act (A : Dk) (kd nn mm : Int) (nm dst : ByteArray) (bs : List UInt8) : Int × Dk :=
  if kd = 1 then A.create nm else if kd = 2 then A.append nm bs else if kd = 3 then A.sync nm else if kd = 4 then A.rename nm dst else if kd = 5 then A.delete nm
  else if kd = 7 then (0, A.crash nn) else if kd = 8 then (0, A.start) else if kd = 9 then (0, A.arm nn mm) else (0, A)
section
variable {own : Nat → Prop} {w : World} {g : Nat} {A : Dk}
set_option maxRecDepth 100000 in
set_option maxHeartbeats 2000000 in
theorem alone_at {N : Nat} (h : DiskAt own w g A N) (hN : N < 1000000) (kd nn mm : Int) (nm dst : ByteArray) (bo : Option Addr) (bn bc : Nat) (bs : List UInt8) (hnn : -9223372036854775808 ≤ nn ∧ nn ≤ 9223372036854775807) (hmm : -9223372036854775808 ≤ mm ∧ mm ≤ 9223372036854775807) (hn : nm.size ≤ maxLen) (hd : dst.size ≤ maxLen)
    (hb : Bytes w bo bn bs) (hno : 0 < bn → ∀ ad, bo = some ad → ¬ own ad.block) (hbn : bn ≤ 9223372036854775807) (hfit : A.pre.cap < usedL A.pre.L + bn ∨ usedL A.pre.L + bn ≤ 140737488355328) :
    Calls Try.prog 35 #[.pointer (some ⟨g, 0, none⟩), .agg (opB kd nn mm nm dst bo bn bc)] w fun e w' => e = .returned (.int .i64 (A.act kd nn mm nm dst bs).1) ∧ DiskAt (grow own w) w' g (A.act kd nn mm nm dst bs).2 (N + 1) ∧ Only own w w' := by
  have HD : Hid (DiskAt (here own w) (w.alloc (.cells (opB kd nn mm nm dst bo bn bc) 30)) g A N) := h.now.grown (bel_alloc w _)
  have HGR : Hid (∀ k, grow (here own w) (w.alloc (.cells (opB kd nn mm nm dst bo bn bc) 30)) k → grow own w k) := fun k e => by
    rcases e with e | e
    · exact .inl e.1
    · refine .inr ?_; simp at e; omega
  have HON : Hid (∀ w', Only (here own w) (w.alloc (.cells (opB kd nn mm nm dst bo bn bc) 30)) w' → Only own w w') := fun w' ho => ((Only.refl own w).alloc _).trans ho (fun _ e => .inl e.1)
  have HR : Hid (N < 1000000 ∧ nm.size ≤ maxLen ∧ dst.size ≤ maxLen ∧ bn ≤ 9223372036854775807) := ⟨hN, hn, hd, hbn⟩
  have HNN : Hid ((-9223372036854775808 ≤ nn ∧ nn ≤ 9223372036854775807) ∧ (-9223372036854775808 ≤ mm ∧ mm ≤ 9223372036854775807)) := ⟨hnn, hmm⟩
  have HBY : Hid (Bytes (w.alloc (.cells (opB kd nn mm nm dst bo bn bc) 30)) bo bn bs) := bytes_kept hb (bel_alloc w _) (Nat.le_refl _)
  have HNO : Hid (0 < bn → ∀ ad, bo = some ad → ¬ here own w ad.block) := fun hp ad e q => hno hp ad e q.1
  have HFIT : Hid (A.pre.cap < usedL A.pre.L + bn ∨ usedL A.pre.L + bn ≤ 140737488355328) := hfit
  clear h hN hnn hmm hn hd hb hno hbn hfit
  go_enter Try.func35, Try.ntmps35
  by_cases h1 : kd = 1
  · subst h1
    have HC : Hid _ := create_at HD.out HR.out.1 nm HR.out.2.1
    have HE : Hid (A.act 1 nn mm nm dst bs = A.create nm) := rfl
    go_wp2_with fail
    refine Calls.mono HC.out ?_
    rintro e w2 ⟨rfl, hd, ho⟩
    have HD2 : Hid _ := hd
    have HO2 : Hid _ := HON.out w2 ho
    clear hd ho HC HD HBY
    go_wp2_with fail
    go_ret
    rw [HE.out]
    exact ⟨rfl, DiskAt.mono HD2.out (fun k _ e => HGR.out k e) (Nat.le_refl _), HO2.out⟩
  · skip
    by_cases h2 : kd = 2
    · subst h2
      have HC : Hid _ := append_at HD.out HR.out.1 nm HR.out.2.1 bo bn bc bs HBY.out HNO.out HR.out.2.2.2 HFIT.out
      have HE : Hid (A.act 2 nn mm nm dst bs = A.append nm bs) := rfl
      go_wp2_with fail
      refine Calls.mono HC.out ?_
      rintro e w2 ⟨rfl, hd, ho⟩
      have HD2 : Hid _ := hd
      have HO2 : Hid _ := HON.out w2 ho
      clear hd ho HC HD HBY
      go_wp2_with fail
      go_ret
      rw [HE.out]
      exact ⟨rfl, DiskAt.mono HD2.out (fun k _ e => HGR.out k e) (Nat.le_refl _), HO2.out⟩
    · skip
      by_cases h3 : kd = 3
      · subst h3
        have HC : Hid _ := sync_at HD.out HR.out.1 nm HR.out.2.1
        have HE : Hid (A.act 3 nn mm nm dst bs = A.sync nm) := rfl
        go_wp2_with fail
        refine Calls.mono HC.out ?_
        rintro e w2 ⟨rfl, hd, ho⟩
        have HD2 : Hid _ := hd
        have HO2 : Hid _ := HON.out w2 ho
        clear hd ho HC HD HBY
        go_wp2_with fail
        go_ret
        rw [HE.out]
        exact ⟨rfl, DiskAt.mono HD2.out (fun k _ e => HGR.out k e) (Nat.le_refl _), HO2.out⟩
      · skip
        by_cases h4 : kd = 4
        · subst h4
          have HC : Hid _ := rename_at HD.out HR.out.1 nm dst HR.out.2.1 HR.out.2.2.1
          have HE : Hid (A.act 4 nn mm nm dst bs = A.rename nm dst) := rfl
          go_wp2_with fail
          refine Calls.mono HC.out ?_
          rintro e w2 ⟨rfl, hd, ho⟩
          have HD2 : Hid _ := hd
          have HO2 : Hid _ := HON.out w2 ho
          clear hd ho HC HD HBY
          go_wp2_with fail
          go_ret
          rw [HE.out]
          exact ⟨rfl, DiskAt.mono HD2.out (fun k _ e => HGR.out k e) (Nat.le_refl _), HO2.out⟩
        · skip
          by_cases h5 : kd = 5
          · subst h5
            have HC : Hid _ := delete_at HD.out HR.out.1 nm HR.out.2.1
            have HE : Hid (A.act 5 nn mm nm dst bs = A.delete nm) := rfl
            go_wp2_with fail
            refine Calls.mono HC.out ?_
            rintro e w2 ⟨rfl, hd, ho⟩
            have HD2 : Hid _ := hd
            have HO2 : Hid _ := HON.out w2 ho
            clear hd ho HC HD HBY
            go_wp2_with fail
            go_ret
            rw [HE.out]
            exact ⟨rfl, DiskAt.mono HD2.out (fun k _ e => HGR.out k e) (Nat.le_refl _), HO2.out⟩
          · skip
            by_cases h7 : kd = 7
            · subst h7
              have HC : Hid _ := crash_dk HD.out (Nat.le_of_lt HR.out.1) nn HNN.out.1
              have HE : Hid (A.act 7 nn mm nm dst bs = (0, A.crash nn)) := rfl
              go_wp2_with fail
              refine Calls.mono HC.out ?_
              rintro e w2 ⟨rfl, hd, ho⟩
              have HD2 : Hid _ := hd
              have HO2 : Hid _ := HON.out w2 ho
              clear hd ho HC HD HBY
              go_wp2_with fail
              go_ret
              rw [HE.out]
              exact ⟨rfl, DiskAt.mono HD2.out (fun k _ e => HGR.out k e) (Nat.le_succ _), HO2.out⟩
            · skip
              by_cases h8 : kd = 8
              · subst h8
                have HC : Hid _ := start_at HD.out
                have HE : Hid (A.act 8 nn mm nm dst bs = (0, A.start)) := rfl
                go_wp2_with fail
                refine Calls.mono HC.out ?_
                rintro e w2 ⟨rfl, hd, ho⟩
                have HD2 : Hid _ := hd
                have HO2 : Hid _ := HON.out w2 ho
                clear hd ho HC HD HBY
                go_wp2_with fail
                go_ret
                rw [HE.out]
                exact ⟨rfl, DiskAt.mono HD2.out (fun k _ e => HGR.out k (.inl e)) (Nat.le_succ _), HO2.out⟩
              · skip
                by_cases h9 : kd = 9
                · subst h9
                  have HC : Hid _ := arm_at HD.out nn mm HNN.out.1 HNN.out.2
                  have HE : Hid (A.act 9 nn mm nm dst bs = (0, A.arm nn mm)) := rfl
                  go_wp2_with fail
                  refine Calls.mono HC.out ?_
                  rintro e w2 ⟨rfl, hd, ho⟩
                  have HD2 : Hid _ := hd
                  have HO2 : Hid _ := HON.out w2 ho
                  clear hd ho HC HD HBY
                  go_wp2_with fail
                  go_ret
                  rw [HE.out]
                  exact ⟨rfl, DiskAt.mono HD2.out (fun k _ e => HGR.out k (.inl e)) (Nat.le_succ _), HO2.out⟩
                · skip
                  have HE : Hid (A.act kd nn mm nm dst bs = (0, A)) := by
                    show _ = _
                    unfold Dk.act
                    rw [if_neg h1, if_neg h2, if_neg h3, if_neg h4, if_neg h5, if_neg h7, if_neg h8, if_neg h9]
                  go_wp2_with fail
                  go_ret
                  rw [HE.out]
                  exact ⟨rfl, HD.out.mono (fun k _ e => .inl e.1) (Nat.le_succ _), (Only.refl own w).alloc _⟩
end
end Go.Proofs.Ytomeghngjiaofaa

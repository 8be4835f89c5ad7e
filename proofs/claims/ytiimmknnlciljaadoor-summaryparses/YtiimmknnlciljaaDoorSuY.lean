/-
  What Bytes of a summary answers: a contract over this translation.
-/
import Derived.Test.YtiimmknnlciljaaDoorSuRt
import Derived.Test.YtiimmknnlciljaaDoorSuW
namespace Go.Proofs.YtiimmknnlciljaaDoor
open Go.RowKit Go.Sort Go.Shelf
set_option linter.unusedSectionVars false
variable [Inhabited E] [DecidableEq E]
theorem key_small {s : ByteArray} (h : keyB s = true) : s.size ≤ 128 := by
  simp only [keyB, Bool.and_eq_true, decide_eq_true_eq] at h; exact h.2
theorem flat_snoc (ts : List Tb) (i : Nat) (h : i < ts.length) : (ts.take (i + 1)).flatMap writtenB = (ts.take i).flatMap writtenB ++ writtenB (ts.getD i zT) := by
  rw [List.take_succ_eq_append_getElem h, getD_at ts i zT h, List.flatMap_append, List.flatMap_singleton]
theorem flat_take_len {ts : List Tb} (h : rightT ts) (i : Nat) : ((ts.take i).flatMap writtenB).length ≤ 328 * 512 := by
  have h1 := flat_len (l := ts.take i) (fun x hx => right_mem h x (List.mem_of_mem_take hx))
  have h2 : (ts.take i).length ≤ ts.length := by rw [List.length_take]; omega
  have h3 := h.1
  omega
/-- What Bytes leaves of its bytes. -/
def YB (r : Bool) (B : Nat) (w : World) (v : Value) (bs : List UInt8) : Prop := (r = true → w.ownsRow B 5 1 v bs.length (cellsOf bs)) ∧ (r = false → v = .slice none 0 0)
set_option maxRecDepth 100000 in
set_option maxHeartbeats 8000000 in
theorem bytes14_any (ao : Option Addr) (n c : Nat) (ts : List Tb) (w : World) (hE : TabsV w ao n ts) (hsm : SmallT ts) (hbig : n ≤ 9223372036854775807) :
    Calls Tryd.prog 13 #[.slice ao n c] w fun e w' => ∃ v, e = .returned (.tuple #[v, .int .i64 (if rightTB ts then 0 else 1)]) ∧ YB (rightTB ts) w.heap.size w' v (sumB ts) ∧ Below w.heap.size w w' := by
  have HE : Hid _ := hE
  have HRT := right14_any ao n c ts w hE hsm hbig
  obtain ⟨r, HR⟩ : ∃ r, Hid (rightTB ts = r) := ⟨_, rfl⟩
  rw [HR.out] at HRT ⊢
  clear hE hsm
  go_enter Tryd.func13, Tryd.ntmps13
  go_wp2_with fail
  refine HRT.mono ?_
  rintro e w1 ⟨rfl, hb1⟩
  cases r with
  | false =>
    go_wp2
    go_ret2
    exact ⟨.slice none 0 0, rfl, ⟨fun h => (by cases h), fun _ => rfl⟩, hb1⟩
  | true =>
    have hright : rightT ts := rightTB_iff.1 HR.out
    have HRI : Hid (rightT ts) := hright
    have hn5 : n ≤ 512 := by have := hright.1; rw [HE.out.1] at this; exact this
    have hwn : Hid (IntKind.u64.wrap (n : Int) = (n : Int)) := IntWalk.u64_in _ ⟨by omega, by omega⟩
    have HB1 : Hid (Below w.heap.size w w1) := hb1
    clear hright hb1
    go_wp2_with fail
    refine (put_own n w1 (by omega)).mono ?_
    rintro e w2 ⟨ao2, c2, rfl, hown2, hb2⟩
    have HB2 : Hid (Below w.heap.size w w2) := HB1.out.trans (hb2.mono HB1.out.size)
    have HO2 : Hid (w2.ownsRow w.heap.size 5 1 (.slice ao2 (sz n) c2) (putB n).length (cellsOf (putB n))) := ownsRow_mono hown2 HB1.out.size
    clear hown2 hb2 HB1
    go_wp2
    go_loopw [4, 6, 16] (fun o _ x wr => ∃ i : Nat, x = .int .i64 i ∧ i ≤ n ∧ wr.ownsRow w.heap.size 5 1 o (putB n ++ (ts.take i).flatMap writtenB).length (cellsOf (putB n ++ (ts.take i).flatMap writtenB)) ∧ Below w.heap.size w wr) (fun _ _ x _ => n - (intOf x).toNat)
    case atStart => exact ⟨0, rfl, by omega, by simpa using HO2.out, HB2.out⟩
    case round =>
      obtain ⟨i, rfl, hin, hown, hbel⟩ := hrel
      by_cases hlt : i < n
      · have hltz : (i : Int) < (n : Int) := by omega
        obtain ⟨b, off, hao, hEn⟩ := HE.out.2 (by omega)
        have hln := HE.out.1
        obtain ⟨x, HX⟩ : ∃ x, Hid (ts.getD i zT = x) := ⟨_, rfl⟩
        have HRX : Hid (wr.rangeAt b (off + i * 36) (encT x)) := tabs_range (hEn.below hbel (Nat.le_refl _)) i (by omega) HX.out
        have hone : oneT x := by rw [← HX.out]; exact (HRI.out.2 i (by omega)).1
        have HWC : Hid (∀ W, Calls Tryd.prog 32 #[.agg (encT x).toArray] W fun e w' => ∃ v, e = .returned v ∧ w'.ownsRow W.heap.size 5 1 v (writtenB x).length (cellsOf (writtenB x)) ∧ Below W.heap.size W w') := fun W => written_any x W hone.1 (by have := hone.2.1; omega) (by have := hone.2.2.1; omega) (by have := hone.2.2.2.1; omega) (by have := key_small hone.2.2.2.2.1; omega) (by have := key_small hone.2.2.2.2.2.1; omega)
        have hxl := writtenB_len hone
        subst hao
        obtain ⟨D, HD⟩ : ∃ D, Hid (putB n ++ (ts.take i).flatMap writtenB = D) := ⟨_, rfl⟩
        rw [HD.out] at hown
        have hlenD : D.length ≤ 200000 := by rw [← HD.out, List.length_append]; have := putB_le n; have := flat_take_len HRI.out i; omega
        have HN : Hid (putB n ++ (ts.take (i + 1)).flatMap writtenB = D ++ writtenB x) := by
          show _ = _
          rw [flat_snoc ts i (by omega), HX.out, ← List.append_assoc, HD.out]
        obtain ⟨X, HXX⟩ : ∃ X, Hid (writtenB x = X) := ⟨_, rfl⟩
        rw [HXX.out] at hxl HWC HN
        have HOW : Hid (wr.ownsRow w.heap.size 5 1 u4 D.length (cellsOf D)) := hown
        have HBE : Hid (Below w.heap.size w wr) := hbel
        clear hEn hown hbel hln hone
        go_wp2_with (first | (refine wpList_load_mid rfl 51 (.tmp 18) rfl b (off + i * 36) rfl (encT x) _ HRX.out Tryd.underlying51 rfl (sizeT x) ?_) | (refine wpList_store_box _ rfl (.tmp 6) (.tmp 19) rfl wr.heap.size rfl x rfl _ (heap_alloc_new wr _) rfl ?_))
        intro w3 hbox hchg
        have HB3 : Hid (Below wr.heap.size wr w3) := (bel_alloc wr _).trans (hchg.below (Nat.le_refl _) (by simp))
        have HBX : Hid (Box w3 wr.heap.size x) := hbox
        clear hbox hchg
        go_wp2_with (refine wpList_load_row rfl 51 (.tmp 6) rfl wr.heap.size rfl 51 (encT x).toArray (0, 0) _ HBX.out Tryd.underlying51 rfl (sizeTA _) ?_)
        refine (HWC.out _).mono ?_
        rintro e w4 ⟨v4, rfl, hown4, hb4⟩
        have HB4 : Hid (Below w.heap.size w w4) := (HBE.out.trans (HB3.out.mono HBE.out.size)).trans (hb4.mono (by have := HBE.out.size; have := HB3.out.size; omega))
        have HO4 : Hid (w4.ownsRow w.heap.size 5 1 u4 D.length (cellsOf D)) := own_below (own_below HOW.out HB3.out (Nat.le_refl _)) hb4 (Nat.le_refl _)
        obtain ⟨a4, c4, rfl, hby4, hn4, -, -, hsz4, -⟩ := own_bytes hown4
        have HY4 : Hid (Bytes w4 a4 X.length X) := hby4
        have HN4 : Hid (a4 = none → c4 = 0) := hn4
        clear hown4 hb4 hby4 hn4 hsz4 HWC
        go_wp2_with (at_builtin; refine wpList_append_bytes _ rfl (.tmp 20) (.tmp 22) rfl w.heap.size _ _ D rfl HO4.out HB4.out.size a4 X.length c4 X rfl HY4.out HN4.out (by omega) ?_)
        intro v5 w5 hown5 hb5
        have HO5 : Hid (w5.ownsRow w.heap.size 5 1 v5 (D ++ X).length (cellsOf (D ++ X))) := by
          show World.ownsRow _ _ _ _ _ _ _
          rw [List.length_append]; exact hown5
        have HB5 : Hid (Below w.heap.size w w5) := HB4.out.trans hb5
        clear hown5 hb5
        go_wp2
        go_roundw
        case rel => exact ⟨i + 1, by go_num, by omega, by rw [HN.out]; exact HO5.out, HB5.out⟩
        case measure => simp [intOf]; omega
      · have hltz : ¬ (i : Int) < (n : Int) := by omega
        have HT : Hid (putB n ++ (ts.take i).flatMap writtenB = sumB ts) := by
          show _ = _
          rw [List.take_of_length_le (by rw [HE.out.1]; omega), ← HE.out.1]; rfl
        rw [HT.out] at hown
        have HO : Hid _ := And.intro hown hbel
        clear hown hbel
        go_wp2
        go_ret2
        exact ⟨u4, rfl, ⟨fun _ => HO.out.1, fun h => (by cases h)⟩, HO.out.2⟩
end Go.Proofs.YtiimmknnlciljaaDoor

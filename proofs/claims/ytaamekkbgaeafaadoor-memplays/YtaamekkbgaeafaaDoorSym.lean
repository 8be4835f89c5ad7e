/-
  slices.swapRangeCmpFunc, rotateCmpFunc and symMergeCmpFunc, over any program that bears these bodies: what they lay.
-/
import Derived.Test.YtaamekkbgaeafaaDoorPartE
import Derived.Sort.WalkB2
import Derived.Sort.WalkB12
import Derived.Deep.LoopGhost
namespace Go.Proofs.YtaamekkbgaeafaaDoor
open Go.Shelf Go.RowKit Go.Lib Go.Sort
set_option linter.unusedSectionVars false
variable [Inhabited E]
/-- What a program must bear for the walks below. -/
structure LaysS (P : Program) (k : Nat) : Prop where
  mixed : P.follows .mixedOrders = true
  f71 : P.funcs[53]? = some Tryd.f53
  f82 : P.funcs[66]? = some Tryd.f66
  f89 : P.funcs[76]? = some Tryd.f76
  f91 : P.funcs[79]? = some Tryd.f79
  t0 : P.underlying 0 = some (TypeDesc.tuple #[])
  a0 : ∀ w, (isAgg 0).run P w = .ok false w
  z0 : ∀ w, (Go.sizeOf 0).run P w = .ok 1 w
  v0 : ∀ w, (zeroValue 0).run P w = .ok (Value.tuple #[]) w
  t3 : P.underlying 3 = some (TypeDesc.int IntKind.i64)
  a3 : ∀ w, (isAgg 3).run P w = .ok false w
  z3 : ∀ w, (Go.sizeOf 3).run P w = .ok 1 w
  v3 : ∀ w, (zeroValue 3).run P w = .ok (Value.int IntKind.i64 0) w
  t4 : P.underlying 4 = some (TypeDesc.bool)
  a4 : ∀ w, (isAgg 4).run P w = .ok false w
  z4 : ∀ w, (Go.sizeOf 4).run P w = .ok 1 w
  v4 : ∀ w, (zeroValue 4).run P w = .ok (Value.bool false) w
  t35 : P.underlying 35 = some (TypeDesc.slice 29)
  a35 : ∀ w, (isAgg 35).run P w = .ok false w
  z35 : ∀ w, (Go.sizeOf 35).run P w = .ok 1 w
  v35 : ∀ w, (zeroValue 35).run P w = .ok (Value.slice none 0 0) w
  t70 : P.underlying 66 = some (TypeDesc.func #[29, 29] #[3] false)
  a70 : ∀ w, (isAgg 66).run P w = .ok false w
  z70 : ∀ w, (Go.sizeOf 66).run P w = .ok 1 w
  v70 : ∀ w, (zeroValue 66).run P w = .ok (Value.nilFunc) w
  t87 : P.underlying 74 = some (TypeDesc.int IntKind.u64)
  a87 : ∀ w, (isAgg 74).run P w = .ok false w
  z87 : ∀ w, (Go.sizeOf 74).run P w = .ok 1 w
  v87 : ∀ w, (zeroValue 74).run P w = .ok (Value.int IntKind.u64 0) w
  aE : ∀ w, (isAgg 29).run P w = .ok true w
  zE : ∀ w, (Go.sizeOf 29).run P w = .ok k w
theorem Tryd.laysS : LaysS Tryd.prog 4 := {
  mixed := by kernel_rfl
  f71 := Tryd.func53
  f82 := Tryd.func66
  f89 := Tryd.func76
  f91 := Tryd.func79
  t0 := Tryd.underlying0
  a0 := Tryd.isAgg0
  z0 := Tryd.sizeOf0
  v0 := Tryd.zeroValue0
  t3 := Tryd.underlying3
  a3 := Tryd.isAgg3
  z3 := Tryd.sizeOf3
  v3 := Tryd.zeroValue3
  t4 := Tryd.underlying4
  a4 := Tryd.isAgg4
  z4 := Tryd.sizeOf4
  v4 := Tryd.zeroValue4
  t35 := Tryd.underlying35
  a35 := Tryd.isAgg35
  z35 := Tryd.sizeOf35
  v35 := Tryd.zeroValue35
  t70 := Tryd.underlying66
  a70 := Tryd.isAgg66
  z70 := Tryd.sizeOf66
  v70 := Tryd.zeroValue66
  t87 := Tryd.underlying74
  a87 := Tryd.isAgg74
  z87 := Tryd.sizeOf74
  v87 := Tryd.zeroValue74
  aE := Tryd.isAgg29
  zE := Tryd.sizeOf29 }
variable {P : Program} {α : Type} [Inhabited α]
set_option maxHeartbeats 4000000 in
set_option maxRecDepth 1000000 in
theorem swapRange_gen (k : Nat) (L : LaysS P k) (enc : α → List Value) (g : Nat) (cb : Array Value) (blk off cap a b n sz : Nat) (d0 : Array α) (A X M Y Z : List α) (w0 w : World)
    (R : RowK enc k w0 blk off d0) (hs : d0.size = sz) (hd : (A ++ (X ++ (M ++ (Y ++ Z)))).length = sz) (S : SWK enc k w0 blk off (A ++ (X ++ (M ++ (Y ++ Z)))).toArray w)
    (ha : A.length = a) (hb : A.length + X.length + M.length = b) (hn : X.length = n) (hm : Y.length = n) (hsz : sz < 4611686018427387904) :
    Calls P 79 #[.slice (some ⟨blk, off, none⟩) sz cap, .int .i64 a, .int .i64 b, .int .i64 n, .func (.func g) #[] cb] w fun e w' => e = .returned (.tuple #[]) ∧ SWK enc k w0 blk off (A ++ (Y ++ (M ++ (X ++ Z)))).toArray w' := by
  have mixed := L.mixed; have t0 := L.t0; have a0 := L.a0; have z0 := L.z0; have v0 := L.v0; have t3 := L.t3; have a3 := L.a3; have z3 := L.z3; have v3 := L.v3; have t4 := L.t4; have a4 := L.a4; have z4 := L.z4; have v4 := L.v4; have t35 := L.t35; have a35 := L.a35; have z35 := L.z35; have v35 := L.v35; have t70 := L.t70; have a70 := L.a70; have z70 := L.z70; have v70 := L.v70; have aE := L.aE; have zE := L.zE
  have F := L.f91
  have hlen : A.length + X.length + M.length + Y.length + Z.length = sz := by simp only [List.length_append] at hd; omega
  have S0 : Aside (SWK enc k w0 blk off (A ++ (X ++ (M ++ (Y ++ Z)))).toArray w) := S
  clear S hd
  have HN : Hid (X.length = n ∧ Y.length = n ∧ A.length = a ∧ A.length + X.length + M.length = b ∧ A.length + X.length + M.length + Y.length + Z.length = sz ∧ d0.size = sz) := ⟨hn, hm, ha, hb, hlen, hs⟩
  have h1 : a + n ≤ b := by omega
  have h2 : b + n ≤ sz := by omega
  clear hn hm ha hb hlen hs L
  go_enter F, Tryd.ntmps79
  go_wp2
  go_loopg [10] n (fun kx s10 wr => ∃ (i : Nat) (X1 X2 Y1 Y2 : List α), s10 = .int .i64 i ∧ i ≤ n ∧ n - i ≤ kx ∧ Hid (X = X1 ++ X2 ∧ Y = Y1 ++ Y2 ∧ X1.length = i ∧ Y1.length = i) ∧ Aside (SWK enc k w0 blk off (A ++ (Y1 ++ (X2 ++ (M ++ (X1 ++ (Y2 ++ Z)))))).toArray wr))
  case atStart => exact ⟨0, [], X, [], Y, rfl, by omega, by omega, ⟨rfl, rfl, rfl, rfl⟩, S0⟩
  case round =>
    clear S0
    obtain ⟨i, X1, X2, Y1, Y2, rfl, hin, hkx, HP, S1⟩ := hrel
    by_cases hlt : i < n
    · have hltz : (i : Int) < (n : Int) := by omega
      obtain ⟨x, y, X3, Y3, D1, D2, HQ, S4⟩ : ∃ (x y : α) (X3 Y3 : List α) (D1 D2 : Array α), Hid (X2 = x :: X3 ∧ Y2 = y :: Y3 ∧ D1.size = sz ∧ D1[a + i]! = x ∧ D1[b + i]! = y ∧ swp D1 (a + i) (b + i) = D2 ∧ D2 = (A ++ ((Y1 ++ [y]) ++ (X3 ++ (M ++ ((X1 ++ [x]) ++ (Y3 ++ Z)))))).toArray) ∧ Aside (SWK enc k w0 blk off D1 wr) := by
        obtain ⟨e1, e2, e3, e4⟩ := HP.out
        obtain ⟨f1, f2, f3, f4, f5, f6⟩ := HN.out
        have l1 : X2.length = n - i := by rw [e1, List.length_append] at f1; omega
        have l2 : Y2.length = n - i := by rw [e2, List.length_append] at f2; omega
        cases X2 with
        | nil => simp at l1; omega
        | cons x X3 =>
          cases Y2 with
          | nil => simp at l2; omega
          | cons y Y3 =>
            have hb1 : b + i = (A ++ Y1).length + 1 + (X3 ++ (M ++ X1)).length := by simp only [List.length_append, List.length_cons] at l1 f4 f1 e1 ⊢; rw [e1, List.length_append, List.length_cons] at f4; omega
            have ha1 : a + i = (A ++ Y1).length := by rw [List.length_append]; omega
            have hD : A ++ (Y1 ++ (x :: X3 ++ (M ++ (X1 ++ (y :: Y3 ++ Z))))) = (A ++ Y1) ++ x :: ((X3 ++ (M ++ X1)) ++ y :: (Y3 ++ Z)) := by simp
            refine ⟨x, y, X3, Y3, _, _, ⟨rfl, rfl, ?_, ?_, ?_, ?_, rfl⟩, S1⟩
            · simp only [List.size_toArray, List.length_append]
              rw [e1, e2] at f5
              simp only [List.length_append] at f5
              omega
            · rw [hD, ha1]; exact get_mid _ _ _
            · rw [hD, hb1]
              have := get_mid ((A ++ Y1) ++ x :: (X3 ++ (M ++ X1))) (Y3 ++ Z) y
              rw [List.append_assoc (A ++ Y1), List.cons_append, List.length_append, List.length_cons] at this
              rw [show (A ++ Y1).length + 1 + (X3 ++ (M ++ X1)).length = (A ++ Y1).length + ((X3 ++ (M ++ X1)).length + 1) by omega]; exact this
            · rw [hD, swp_list (A ++ Y1) (X3 ++ (M ++ X1)) (Y3 ++ Z) x y _ _ ha1 hb1]; simp
      clear S1
      obtain ⟨q1, q2, q3, q4, q5, q6, q7⟩ := HQ.out
      have hds : D1.size = d0.size := q3.trans HN.out.2.2.2.2.2.symm
      have S2 := S4.out.swapped R (a + i) (b + i) (by omega) (by omega)
      rw [q6, q4, q5] at S2
      have la := S4.out.ld1 R hds P (a + i) (by omega)
      have lb := S4.out.ld1 R hds P (b + i) (by omega)
      have sa := S4.out.st1 R hds P (a + i) (by omega) y
      have sb := S4.out.st2 R hds P (a + i) (b + i) (by omega) (by omega) y x
      rw [q4] at la
      rw [q5] at lb
      have na : (enc x).length = k := R.hk _
      have nb : (enc y).length = k := R.hk _
      have S5 : Aside _ := S2
      clear S2 S4 q1 q2 q3 q4 q5 q6 q7 hds
      generalize enc x = cI at S5 la sb na
      generalize enc y = cJ at S5 lb sa sb nb
      have ea : ((a : Int) + (i : Int)).toNat = a + i := by omega
      have eb : ((b : Int) + (i : Int)).toNat = b + i := by omega
      have pa : (0 : Int) ≤ (a : Int) + (i : Int) := by omega
      have pb : (0 : Int) ≤ (b : Int) + (i : Int) := by omega
      have ba : (a : Int) + (i : Int) < (sz : Int) := by omega
      have bb : (b : Int) + (i : Int) < (sz : Int) := by omega
      have ra : IntKind.i64.wrap ((a : Int) + (i : Int)) = (a : Int) + (i : Int) := by rw [IntKind.wrap_i64]; omega
      have rb : IntKind.i64.wrap ((b : Int) + (i : Int)) = (b : Int) + (i : Int) := by rw [IntKind.wrap_i64]; omega
      go_wp2_with fail
      go_big_region_o
      clear la lb sa sb
      generalize (wr.drew.setCells blk (off + (a + i) * k) cJ).setCells blk (off + (b + i) * k) cI = w2 at S5 ⊢
      go_wp2
      go_roundg (n - (i + 1))
      case measure => omega
      case rel =>
        obtain ⟨e1, e2, e3, e4⟩ := HP.out
        obtain ⟨q1, q2, q3, q4, q5, q6, q7⟩ := HQ.out
        refine ⟨i + 1, X1 ++ [x], X3, Y1 ++ [y], Y3, by go_num, by omega, by omega, ⟨by rw [e1, q1]; simp, by rw [e2, q2]; simp, by simp [e3], by simp [e4]⟩, ?_⟩
        rw [← q7]; exact S5
    · have hltz : ¬ (i : Int) < (n : Int) := by omega
      go_wp2
      go_end0
      refine ⟨rfl, ?_⟩
      obtain ⟨e1, e2, e3, e4⟩ := HP.out
      obtain ⟨f1, f2, f3, f4, f5, f6⟩ := HN.out
      have l1 : X2 = [] := List.eq_nil_of_length_eq_zero (by rw [e1, List.length_append] at f1; omega)
      have l2 : Y2 = [] := List.eq_nil_of_length_eq_zero (by rw [e2, List.length_append] at f2; omega)
      have hS := S1.out
      rw [l1] at hS e1
      rw [l2] at hS e2
      rw [List.append_nil] at e1 e2
      rw [e1, e2]
      simpa using hS
set_option maxHeartbeats 4000000 in
set_option maxRecDepth 1000000 in
theorem rotate_gen (k : Nat) (L : LaysS P k) (enc : α → List Value) (g : Nat) (cb : Array Value) (blk off cap a m b sz : Nat) (d0 : Array α) (A X Y Z : List α) (w0 w : World)
    (R : RowK enc k w0 blk off d0) (hs : d0.size = sz) (hd : (A ++ (X ++ (Y ++ Z))).length = sz) (S : SWK enc k w0 blk off (A ++ (X ++ (Y ++ Z))).toArray w)
    (ha : A.length = a) (hm : A.length + X.length = m) (hb : A.length + X.length + Y.length = b) (hX : 0 < X.length) (hY : 0 < Y.length) (hsz : sz < 4611686018427387904) :
    Calls P 76 #[.slice (some ⟨blk, off, none⟩) sz cap, .int .i64 a, .int .i64 m, .int .i64 b, .func (.func g) #[] cb] w fun e w' => e = .returned (.tuple #[]) ∧ SWK enc k w0 blk off (A ++ (Y ++ (X ++ Z))).toArray w' := by
  have HCS : Aside _ := fun a b n A X M Y Z w hd S ha hb hn hm => swapRange_gen k L enc g cb blk off cap a b n sz d0 A X M Y Z w0 w R hs hd S ha hb hn hm hsz
  have mixed := L.mixed; have t0 := L.t0; have a0 := L.a0; have z0 := L.z0; have v0 := L.v0; have t3 := L.t3; have a3 := L.a3; have z3 := L.z3; have v3 := L.v3; have t4 := L.t4; have a4 := L.a4; have z4 := L.z4; have v4 := L.v4; have t35 := L.t35; have a35 := L.a35; have z35 := L.z35; have v35 := L.v35; have t70 := L.t70; have a70 := L.a70; have z70 := L.z70; have v70 := L.v70; have aE := L.aE; have zE := L.zE
  have F := L.f89
  have e91 : ∀ args w, (callFunc 79 args).run P w = .ok (.enter 79 args) w := enters_of L.f91 (by kernel_rfl) rfl
  have hlen : A.length + X.length + Y.length + Z.length = sz := by simp only [List.length_append] at hd; omega
  have S0 : Aside (SWK enc k w0 blk off (A ++ (X ++ (Y ++ Z))).toArray w) := S
  clear S hd
  have HT : Hid (A.length = a ∧ A.length + X.length = m ∧ A.length + X.length + Y.length = b) := ⟨ha, hm, hb⟩
  obtain ⟨T, HTT⟩ : ∃ T, Hid (A ++ (Y ++ (X ++ Z)) = T) := ⟨_, rfl⟩
  have hTl : T.length = sz := by rw [← HTT.out]; simp only [List.length_append]; omega
  have HTL : Hid _ := hTl
  clear hTl
  have h1 : a < m := by omega
  have h2 : m < b := by omega
  have h3 : b ≤ sz := by omega
  clear hs L R
  rw [HTT.out]
  go_enter F, Tryd.ntmps76
  go_wp2
  go_loopg [10, 11] (b - a) (fun kx s10 s11 wr => ∃ (i j : Nat) (A1 X1 Y1 Z1 : List α), s10 = .int .i64 i ∧ s11 = .int .i64 j ∧ 0 < i ∧ 0 < j ∧ i ≤ m ∧ m + j ≤ sz ∧ i + j ≤ kx ∧ Hid (X1.length = i ∧ Y1.length = j ∧ A1.length + i = m ∧ A1 ++ (Y1 ++ (X1 ++ Z1)) = T) ∧ Aside (SWK enc k w0 blk off (A1 ++ (X1 ++ (Y1 ++ Z1))).toArray wr))
  case atStart =>
    obtain ⟨f1, f2, f3⟩ := HT.out
    exact ⟨m - a, b - m, A, X, Y, Z, by congr 1; omega, by congr 1; omega, by omega, by omega, by omega, by omega, by omega, ⟨by omega, by omega, by omega, HTT.out⟩, S0⟩
  case round =>
    clear S0
    obtain ⟨i, j, A1, X1, Y1, Z1, rfl, rfl, hi, hj, him, hjm, hkx, HP, S1⟩ := hrel
    have hfull : (A1 ++ (X1 ++ (Y1 ++ Z1))).length = sz := by
      have := congrArg List.length HP.out.2.2.2
      rw [HTL.out] at this
      simp only [List.length_append] at this ⊢; omega
    have HF : Hid _ := hfull
    clear hfull
    by_cases hij : i = j
    · subst hij
      have hc : Calls P 79 #[.slice (some ⟨blk, off, none⟩) sz cap, .int .i64 ((m : Int) - (i : Int)), .int .i64 m, .int .i64 i, .func (.func g) #[] cb] wr fun e w' => e = .returned (.tuple #[]) ∧ SWK enc k w0 blk off T.toArray w' := by
        obtain ⟨p1, p2, p3, p4⟩ := HP.out
        have := HCS.out (m - i) m i A1 X1 [] Y1 Z1 wr (by simpa using HF.out) (by simpa using S1.out) (by omega) (by simp; omega) p1 p2
        rw [show ((m - i : Nat) : Int) = (m : Int) - (i : Int) by omega] at this
        rw [← p4]
        simpa using this
      have HC : Hid _ := hc
      clear hc S1
      go_wp2_with fail
      refine Calls.mono HC.out ?_
      rintro e w1 ⟨rfl, S2⟩
      go_wp2
      go_end0
      exact ⟨rfl, S2⟩
    · have hne : ¬ (i : Int) = (j : Int) := by omega
      have hne2 : ((i : Int) != (j : Int)) = true := by simp; omega
      by_cases hgt : j < i
      · have hgtz : (j : Int) < (i : Int) := by omega
        obtain ⟨U1, U2, HU⟩ : ∃ U1 U2 : List α, Hid (X1 = U1 ++ U2 ∧ U1.length = j ∧ U2.length = i - j) := ⟨X1.take j, X1.drop j, by rw [List.take_append_drop], by rw [List.length_take]; have := HP.out.1; omega, by rw [List.length_drop]; have := HP.out.1; omega⟩
        have hc : Calls P 79 #[.slice (some ⟨blk, off, none⟩) sz cap, .int .i64 ((m : Int) - (i : Int)), .int .i64 m, .int .i64 j, .func (.func g) #[] cb] wr fun e w' => e = .returned (.tuple #[]) ∧ SWK enc k w0 blk off (A1 ++ (Y1 ++ (U2 ++ (U1 ++ Z1)))).toArray w' := by
          obtain ⟨p1, p2, p3, p4⟩ := HP.out
          obtain ⟨u1, u2, u3⟩ := HU.out
          have hf := HF.out
          have hS := S1.out
          rw [u1] at hf hS
          have := HCS.out (m - i) m j A1 U1 U2 Y1 Z1 wr (by simpa using hf) (by simpa using hS) (by omega) (by omega) u2 p2
          rw [show ((m - i : Nat) : Int) = (m : Int) - (i : Int) by omega] at this
          exact this
        have HC : Hid _ := hc
        clear hc S1
        go_wp2_with fail
        refine Calls.mono HC.out ?_
        rintro e w1 ⟨rfl, S2⟩
        have S3 : Aside (SWK enc k w0 blk off (A1 ++ (Y1 ++ (U2 ++ (U1 ++ Z1)))).toArray w1) := S2
        clear S2
        go_wp2
        go_roundg (i - j + j)
        case measure => omega
        case rel =>
          obtain ⟨p1, p2, p3, p4⟩ := HP.out
          obtain ⟨u1, u2, u3⟩ := HU.out
          refine ⟨i - j, j, A1 ++ Y1, U2, U1, Z1, by congr 1; omega, rfl, by omega, hj, by omega, hjm, by omega, ⟨u3, u2, by rw [List.length_append]; omega, ?_⟩, by rw [List.append_assoc]; exact S3⟩
          rw [← p4, u1]; simp
      · have hgtz : ¬ (j : Int) < (i : Int) := by omega
        obtain ⟨U1, U2, HU⟩ : ∃ U1 U2 : List α, Hid (Y1 = U1 ++ U2 ∧ U1.length = j - i ∧ U2.length = i) := ⟨Y1.take (j - i), Y1.drop (j - i), by rw [List.take_append_drop], by rw [List.length_take]; have := HP.out.2.1; omega, by rw [List.length_drop]; have := HP.out.2.1; omega⟩
        have hc : Calls P 79 #[.slice (some ⟨blk, off, none⟩) sz cap, .int .i64 ((m : Int) - (i : Int)), .int .i64 ((m : Int) + (j : Int) - (i : Int)), .int .i64 i, .func (.func g) #[] cb] wr fun e w' => e = .returned (.tuple #[]) ∧ SWK enc k w0 blk off (A1 ++ (U2 ++ (U1 ++ (X1 ++ Z1)))).toArray w' := by
          obtain ⟨p1, p2, p3, p4⟩ := HP.out
          obtain ⟨u1, u2, u3⟩ := HU.out
          have hf := HF.out
          have hS := S1.out
          rw [u1] at hf hS
          have := HCS.out (m - i) (m + j - i) i A1 X1 U1 U2 Z1 wr (by simpa using hf) (by simpa using hS) (by omega) (by omega) p1 u3
          rw [show ((m - i : Nat) : Int) = (m : Int) - (i : Int) by omega, show ((m + j - i : Nat) : Int) = (m : Int) + (j : Int) - (i : Int) by omega] at this
          exact this
        have HC : Hid _ := hc
        clear hc S1
        go_wp2_with fail
        refine Calls.mono HC.out ?_
        rintro e w1 ⟨rfl, S2⟩
        have S3 : Aside (SWK enc k w0 blk off (A1 ++ (U2 ++ (U1 ++ (X1 ++ Z1)))).toArray w1) := S2
        clear S2
        go_wp2
        go_roundg (i + (j - i))
        case measure => omega
        case rel =>
          obtain ⟨p1, p2, p3, p4⟩ := HP.out
          obtain ⟨u1, u2, u3⟩ := HU.out
          refine ⟨i, j - i, A1, U2, U1, X1 ++ Z1, rfl, by congr 1; omega, hi, by omega, him, by omega, by omega, ⟨u3, u2, p3, ?_⟩, S3⟩
          rw [← p4, u1]; simp
end Go.Proofs.YtaamekkbgaeafaaDoor

/-
  slices.swapRangeCmpFunc, rotateCmpFunc and symMergeCmpFunc, over any program that bears these bodies: what they lay. slices.symMergeCmpFunc where one of the two pieces is one entry. slices.symMergeCmpFunc where the second piece is one entry.
-/
import Derived.Test.YtecacjddggljgaaDoorPartAB
import Derived.Sort.WalkB2
import Derived.Sort.WalkB12
import Derived.Deep.LoopGhost
namespace Go.Proofs.YtecacjddggljgaaDoor
open Go.Shelf Go.RowKit Go.Lib Go.Sort
set_option linter.unusedSectionVars false
variable [Inhabited E]
/-- What a program must bear for the walks below. -/
structure LaysS (P : Program) (k : Nat) : Prop where
  mixed : P.follows .mixedOrders = true
  f71 : P.funcs[113]? = some Tryd.f113
  f82 : P.funcs[129]? = some Tryd.f129
  f89 : P.funcs[142]? = some Tryd.f142
  f91 : P.funcs[149]? = some Tryd.f149
  t0 : P.underlying 0 = some (TypeDesc.tuple #[])
  a0 : ∀ w, (isAgg 0).run P w = .ok false w
  z0 : ∀ w, (Go.sizeOf 0).run P w = .ok 1 w
  v0 : ∀ w, (zeroValue 0).run P w = .ok (Value.tuple #[]) w
  t3 : P.underlying 3 = some (TypeDesc.int IntKind.i64)
  a3 : ∀ w, (isAgg 3).run P w = .ok false w
  z3 : ∀ w, (Go.sizeOf 3).run P w = .ok 1 w
  v3 : ∀ w, (zeroValue 3).run P w = .ok (Value.int IntKind.i64 0) w
  t4 : P.underlying 4 = some (TypeDesc.bool)
  a4 : ∀ w, (isAgg 4).run P w = .ok false w
  z4 : ∀ w, (Go.sizeOf 4).run P w = .ok 1 w
  v4 : ∀ w, (zeroValue 4).run P w = .ok (Value.bool false) w
  t35 : P.underlying 22 = some (TypeDesc.slice 54)
  a35 : ∀ w, (isAgg 22).run P w = .ok false w
  z35 : ∀ w, (Go.sizeOf 22).run P w = .ok 1 w
  v35 : ∀ w, (zeroValue 22).run P w = .ok (Value.slice none 0 0) w
  t70 : P.underlying 133 = some (TypeDesc.func #[54, 54] #[3] false)
  a70 : ∀ w, (isAgg 133).run P w = .ok false w
  z70 : ∀ w, (Go.sizeOf 133).run P w = .ok 1 w
  v70 : ∀ w, (zeroValue 133).run P w = .ok (Value.nilFunc) w
  t87 : P.underlying 178 = some (TypeDesc.int IntKind.u64)
  a87 : ∀ w, (isAgg 178).run P w = .ok false w
  z87 : ∀ w, (Go.sizeOf 178).run P w = .ok 1 w
  v87 : ∀ w, (zeroValue 178).run P w = .ok (Value.int IntKind.u64 0) w
  aE : ∀ w, (isAgg 54).run P w = .ok true w
  zE : ∀ w, (Go.sizeOf 54).run P w = .ok k w
theorem Tryd.laysS : LaysS Tryd.prog 4 := {
  mixed := by kernel_rfl
  f71 := Tryd.func113
  f82 := Tryd.func129
  f89 := Tryd.func142
  f91 := Tryd.func149
  t0 := Tryd.underlying0
  a0 := Tryd.isAgg0
  z0 := Tryd.sizeOf0
  v0 := Tryd.zeroValue0
  t3 := Tryd.underlying3
  a3 := Tryd.isAgg3
  z3 := Tryd.sizeOf3
  v3 := Tryd.zeroValue3
  t4 := Tryd.underlying4
  a4 := Tryd.isAgg4
  z4 := Tryd.sizeOf4
  v4 := Tryd.zeroValue4
  t35 := Tryd.underlying22
  a35 := Tryd.isAgg22
  z35 := Tryd.sizeOf22
  v35 := Tryd.zeroValue22
  t70 := Tryd.underlying133
  a70 := Tryd.isAgg133
  z70 := Tryd.sizeOf133
  v70 := Tryd.zeroValue133
  t87 := Tryd.underlying178
  a87 := Tryd.isAgg178
  z87 := Tryd.sizeOf178
  v87 := Tryd.zeroValue178
  aE := Tryd.isAgg54
  zE := Tryd.sizeOf54 }
variable {P : Program} {α : Type} [Inhabited α]
set_option maxHeartbeats 4000000 in
set_option maxRecDepth 1000000 in
theorem swapRange_gen (k : Nat) (L : LaysS P k) (enc : α → List Value) (g : Nat) (cb : Array Value) (blk off cap a b n sz : Nat) (d0 : Array α) (A X M Y Z : List α) (w0 w : World)
    (R : RowK enc k w0 blk off d0) (hs : d0.size = sz) (hd : (A ++ (X ++ (M ++ (Y ++ Z)))).length = sz) (S : SWK enc k w0 blk off (A ++ (X ++ (M ++ (Y ++ Z)))).toArray w)
    (ha : A.length = a) (hb : A.length + X.length + M.length = b) (hn : X.length = n) (hm : Y.length = n) (hsz : sz < 4611686018427387904) :
    Calls P 149 #[.slice (some ⟨blk, off, none⟩) sz cap, .int .i64 a, .int .i64 b, .int .i64 n, .func (.func g) #[] cb] w fun e w' => e = .returned (.tuple #[]) ∧ SWK enc k w0 blk off (A ++ (Y ++ (M ++ (X ++ Z)))).toArray w' := by
  have mixed := L.mixed; have t0 := L.t0; have a0 := L.a0; have z0 := L.z0; have v0 := L.v0; have t3 := L.t3; have a3 := L.a3; have z3 := L.z3; have v3 := L.v3; have t4 := L.t4; have a4 := L.a4; have z4 := L.z4; have v4 := L.v4; have t35 := L.t35; have a35 := L.a35; have z35 := L.z35; have v35 := L.v35; have t70 := L.t70; have a70 := L.a70; have z70 := L.z70; have v70 := L.v70; have aE := L.aE; have zE := L.zE
  have F := L.f91
  have hlen : A.length + X.length + M.length + Y.length + Z.length = sz := by simp only [List.length_append] at hd; omega
  have S0 : Aside (SWK enc k w0 blk off (A ++ (X ++ (M ++ (Y ++ Z)))).toArray w) := S
  clear S hd
  have HN : Hid (X.length = n ∧ Y.length = n ∧ A.length = a ∧ A.length + X.length + M.length = b ∧ A.length + X.length + M.length + Y.length + Z.length = sz ∧ d0.size = sz) := ⟨hn, hm, ha, hb, hlen, hs⟩
  have h1 : a + n ≤ b := by omega
  have h2 : b + n ≤ sz := by omega
  clear hn hm ha hb hlen hs L
  go_enter F, Tryd.ntmps149
  go_wp2
  go_loopg [10] n (fun kx s10 wr => ∃ (i : Nat) (X1 X2 Y1 Y2 : List α), s10 = .int .i64 i ∧ i ≤ n ∧ n - i ≤ kx ∧ Hid (X = X1 ++ X2 ∧ Y = Y1 ++ Y2 ∧ X1.length = i ∧ Y1.length = i) ∧ Aside (SWK enc k w0 blk off (A ++ (Y1 ++ (X2 ++ (M ++ (X1 ++ (Y2 ++ Z)))))).toArray wr))
  case atStart => exact ⟨0, [], X, [], Y, rfl, by omega, by omega, ⟨rfl, rfl, rfl, rfl⟩, S0⟩
  case round =>
    clear S0
    obtain ⟨i, X1, X2, Y1, Y2, rfl, hin, hkx, HP, S1⟩ := hrel
    by_cases hlt : i < n
    · have hltz : (i : Int) < (n : Int) := by omega
      obtain ⟨x, y, X3, Y3, D1, D2, HQ, S4⟩ : ∃ (x y : α) (X3 Y3 : List α) (D1 D2 : Array α), Hid (X2 = x :: X3 ∧ Y2 = y :: Y3 ∧ D1.size = sz ∧ D1[a + i]! = x ∧ D1[b + i]! = y ∧ swp D1 (a + i) (b + i) = D2 ∧ D2 = (A ++ ((Y1 ++ [y]) ++ (X3 ++ (M ++ ((X1 ++ [x]) ++ (Y3 ++ Z)))))).toArray) ∧ Aside (SWK enc k w0 blk off D1 wr) := by
        obtain ⟨e1, e2, e3, e4⟩ := HP.out
        obtain ⟨f1, f2, f3, f4, f5, f6⟩ := HN.out
        have l1 : X2.length = n - i := by rw [e1, List.length_append] at f1; omega
        have l2 : Y2.length = n - i := by rw [e2, List.length_append] at f2; omega
        cases X2 with
        | nil => simp at l1; omega
        | cons x X3 =>
          cases Y2 with
          | nil => simp at l2; omega
          | cons y Y3 =>
            have hb1 : b + i = (A ++ Y1).length + 1 + (X3 ++ (M ++ X1)).length := by simp only [List.length_append, List.length_cons] at l1 f4 f1 e1 ⊢; rw [e1, List.length_append, List.length_cons] at f4; omega
            have ha1 : a + i = (A ++ Y1).length := by rw [List.length_append]; omega
            have hD : A ++ (Y1 ++ (x :: X3 ++ (M ++ (X1 ++ (y :: Y3 ++ Z))))) = (A ++ Y1) ++ x :: ((X3 ++ (M ++ X1)) ++ y :: (Y3 ++ Z)) := by simp
            refine ⟨x, y, X3, Y3, _, _, ⟨rfl, rfl, ?_, ?_, ?_, ?_, rfl⟩, S1⟩
            · simp only [List.size_toArray, List.length_append]
              rw [e1, e2] at f5
              simp only [List.length_append] at f5
              omega
            · rw [hD, ha1]; exact get_mid _ _ _
            · rw [hD, hb1]
              have := get_mid ((A ++ Y1) ++ x :: (X3 ++ (M ++ X1))) (Y3 ++ Z) y
              rw [List.append_assoc (A ++ Y1), List.cons_append, List.length_append, List.length_cons] at this
              rw [show (A ++ Y1).length + 1 + (X3 ++ (M ++ X1)).length = (A ++ Y1).length + ((X3 ++ (M ++ X1)).length + 1) by omega]; exact this
            · rw [hD, swp_list (A ++ Y1) (X3 ++ (M ++ X1)) (Y3 ++ Z) x y _ _ ha1 hb1]; simp
      clear S1
      obtain ⟨q1, q2, q3, q4, q5, q6, q7⟩ := HQ.out
      have hds : D1.size = d0.size := q3.trans HN.out.2.2.2.2.2.symm
      have S2 := S4.out.swapped R (a + i) (b + i) (by omega) (by omega)
      rw [q6, q4, q5] at S2
      have la := S4.out.ld1 R hds P (a + i) (by omega)
      have lb := S4.out.ld1 R hds P (b + i) (by omega)
      have sa := S4.out.st1 R hds P (a + i) (by omega) y
      have sb := S4.out.st2 R hds P (a + i) (b + i) (by omega) (by omega) y x
      rw [q4] at la
      rw [q5] at lb
      have na : (enc x).length = k := R.hk _
      have nb : (enc y).length = k := R.hk _
      have S5 : Aside _ := S2
      clear S2 S4 q1 q2 q3 q4 q5 q6 q7 hds
      generalize enc x = cI at S5 la sb na
      generalize enc y = cJ at S5 lb sa sb nb
      have ea : ((a : Int) + (i : Int)).toNat = a + i := by omega
      have eb : ((b : Int) + (i : Int)).toNat = b + i := by omega
      have pa : (0 : Int) ≤ (a : Int) + (i : Int) := by omega
      have pb : (0 : Int) ≤ (b : Int) + (i : Int) := by omega
      have ba : (a : Int) + (i : Int) < (sz : Int) := by omega
      have bb : (b : Int) + (i : Int) < (sz : Int) := by omega
      have ra : IntKind.i64.wrap ((a : Int) + (i : Int)) = (a : Int) + (i : Int) := by rw [IntKind.wrap_i64]; omega
      have rb : IntKind.i64.wrap ((b : Int) + (i : Int)) = (b : Int) + (i : Int) := by rw [IntKind.wrap_i64]; omega
      go_wp2_with fail
      go_big_region_o
      clear la lb sa sb
      generalize (wr.drew.setCells blk (off + (a + i) * k) cJ).setCells blk (off + (b + i) * k) cI = w2 at S5 ⊢
      go_wp2
      go_roundg (n - (i + 1))
      case measure => omega
      case rel =>
        obtain ⟨e1, e2, e3, e4⟩ := HP.out
        obtain ⟨q1, q2, q3, q4, q5, q6, q7⟩ := HQ.out
        refine ⟨i + 1, X1 ++ [x], X3, Y1 ++ [y], Y3, by go_num, by omega, by omega, ⟨by rw [e1, q1]; simp, by rw [e2, q2]; simp, by simp [e3], by simp [e4]⟩, ?_⟩
        rw [← q7]; exact S5
    · have hltz : ¬ (i : Int) < (n : Int) := by omega
      go_wp2
      go_end0
      refine ⟨rfl, ?_⟩
      obtain ⟨e1, e2, e3, e4⟩ := HP.out
      obtain ⟨f1, f2, f3, f4, f5, f6⟩ := HN.out
      have l1 : X2 = [] := List.eq_nil_of_length_eq_zero (by rw [e1, List.length_append] at f1; omega)
      have l2 : Y2 = [] := List.eq_nil_of_length_eq_zero (by rw [e2, List.length_append] at f2; omega)
      have hS := S1.out
      rw [l1] at hS e1
      rw [l2] at hS e2
      rw [List.append_nil] at e1 e2
      rw [e1, e2]
      simpa using hS
set_option maxHeartbeats 4000000 in
set_option maxRecDepth 1000000 in
theorem rotate_gen (k : Nat) (L : LaysS P k) (enc : α → List Value) (g : Nat) (cb : Array Value) (blk off cap a m b sz : Nat) (d0 : Array α) (A X Y Z : List α) (w0 w : World)
    (R : RowK enc k w0 blk off d0) (hs : d0.size = sz) (hd : (A ++ (X ++ (Y ++ Z))).length = sz) (S : SWK enc k w0 blk off (A ++ (X ++ (Y ++ Z))).toArray w)
    (ha : A.length = a) (hm : A.length + X.length = m) (hb : A.length + X.length + Y.length = b) (hX : 0 < X.length) (hY : 0 < Y.length) (hsz : sz < 4611686018427387904) :
    Calls P 142 #[.slice (some ⟨blk, off, none⟩) sz cap, .int .i64 a, .int .i64 m, .int .i64 b, .func (.func g) #[] cb] w fun e w' => e = .returned (.tuple #[]) ∧ SWK enc k w0 blk off (A ++ (Y ++ (X ++ Z))).toArray w' := by
  have HCS : Aside _ := fun a b n A X M Y Z w hd S ha hb hn hm => swapRange_gen k L enc g cb blk off cap a b n sz d0 A X M Y Z w0 w R hs hd S ha hb hn hm hsz
  have mixed := L.mixed; have t0 := L.t0; have a0 := L.a0; have z0 := L.z0; have v0 := L.v0; have t3 := L.t3; have a3 := L.a3; have z3 := L.z3; have v3 := L.v3; have t4 := L.t4; have a4 := L.a4; have z4 := L.z4; have v4 := L.v4; have t35 := L.t35; have a35 := L.a35; have z35 := L.z35; have v35 := L.v35; have t70 := L.t70; have a70 := L.a70; have z70 := L.z70; have v70 := L.v70; have aE := L.aE; have zE := L.zE
  have F := L.f89
  have e91 : ∀ args w, (callFunc 149 args).run P w = .ok (.enter 149 args) w := enters_of L.f91 (by kernel_rfl) rfl
  have hlen : A.length + X.length + Y.length + Z.length = sz := by simp only [List.length_append] at hd; omega
  have S0 : Aside (SWK enc k w0 blk off (A ++ (X ++ (Y ++ Z))).toArray w) := S
  clear S hd
  have HT : Hid (A.length = a ∧ A.length + X.length = m ∧ A.length + X.length + Y.length = b) := ⟨ha, hm, hb⟩
  obtain ⟨T, HTT⟩ : ∃ T, Hid (A ++ (Y ++ (X ++ Z)) = T) := ⟨_, rfl⟩
  have hTl : T.length = sz := by rw [← HTT.out]; simp only [List.length_append]; omega
  have HTL : Hid _ := hTl
  clear hTl
  have h1 : a < m := by omega
  have h2 : m < b := by omega
  have h3 : b ≤ sz := by omega
  clear hs L R
  rw [HTT.out]
  go_enter F, Tryd.ntmps142
  go_wp2
  go_loopg [10, 11] (b - a) (fun kx s10 s11 wr => ∃ (i j : Nat) (A1 X1 Y1 Z1 : List α), s10 = .int .i64 i ∧ s11 = .int .i64 j ∧ 0 < i ∧ 0 < j ∧ i ≤ m ∧ m + j ≤ sz ∧ i + j ≤ kx ∧ Hid (X1.length = i ∧ Y1.length = j ∧ A1.length + i = m ∧ A1 ++ (Y1 ++ (X1 ++ Z1)) = T) ∧ Aside (SWK enc k w0 blk off (A1 ++ (X1 ++ (Y1 ++ Z1))).toArray wr))
  case atStart =>
    obtain ⟨f1, f2, f3⟩ := HT.out
    exact ⟨m - a, b - m, A, X, Y, Z, by congr 1; omega, by congr 1; omega, by omega, by omega, by omega, by omega, by omega, ⟨by omega, by omega, by omega, HTT.out⟩, S0⟩
  case round =>
    clear S0
    obtain ⟨i, j, A1, X1, Y1, Z1, rfl, rfl, hi, hj, him, hjm, hkx, HP, S1⟩ := hrel
    have hfull : (A1 ++ (X1 ++ (Y1 ++ Z1))).length = sz := by
      have := congrArg List.length HP.out.2.2.2
      rw [HTL.out] at this
      simp only [List.length_append] at this ⊢; omega
    have HF : Hid _ := hfull
    clear hfull
    by_cases hij : i = j
    · subst hij
      have hc : Calls P 149 #[.slice (some ⟨blk, off, none⟩) sz cap, .int .i64 ((m : Int) - (i : Int)), .int .i64 m, .int .i64 i, .func (.func g) #[] cb] wr fun e w' => e = .returned (.tuple #[]) ∧ SWK enc k w0 blk off T.toArray w' := by
        obtain ⟨p1, p2, p3, p4⟩ := HP.out
        have := HCS.out (m - i) m i A1 X1 [] Y1 Z1 wr (by simpa using HF.out) (by simpa using S1.out) (by omega) (by simp; omega) p1 p2
        rw [show ((m - i : Nat) : Int) = (m : Int) - (i : Int) by omega] at this
        rw [← p4]
        simpa using this
      have HC : Hid _ := hc
      clear hc S1
      go_wp2_with fail
      refine Calls.mono HC.out ?_
      rintro e w1 ⟨rfl, S2⟩
      go_wp2
      go_end0
      exact ⟨rfl, S2⟩
    · have hne : ¬ (i : Int) = (j : Int) := by omega
      have hne2 : ((i : Int) != (j : Int)) = true := by simp; omega
      by_cases hgt : j < i
      · have hgtz : (j : Int) < (i : Int) := by omega
        obtain ⟨U1, U2, HU⟩ : ∃ U1 U2 : List α, Hid (X1 = U1 ++ U2 ∧ U1.length = j ∧ U2.length = i - j) := ⟨X1.take j, X1.drop j, by rw [List.take_append_drop], by rw [List.length_take]; have := HP.out.1; omega, by rw [List.length_drop]; have := HP.out.1; omega⟩
        have hc : Calls P 149 #[.slice (some ⟨blk, off, none⟩) sz cap, .int .i64 ((m : Int) - (i : Int)), .int .i64 m, .int .i64 j, .func (.func g) #[] cb] wr fun e w' => e = .returned (.tuple #[]) ∧ SWK enc k w0 blk off (A1 ++ (Y1 ++ (U2 ++ (U1 ++ Z1)))).toArray w' := by
          obtain ⟨p1, p2, p3, p4⟩ := HP.out
          obtain ⟨u1, u2, u3⟩ := HU.out
          have hf := HF.out
          have hS := S1.out
          rw [u1] at hf hS
          have := HCS.out (m - i) m j A1 U1 U2 Y1 Z1 wr (by simpa using hf) (by simpa using hS) (by omega) (by omega) u2 p2
          rw [show ((m - i : Nat) : Int) = (m : Int) - (i : Int) by omega] at this
          exact this
        have HC : Hid _ := hc
        clear hc S1
        go_wp2_with fail
        refine Calls.mono HC.out ?_
        rintro e w1 ⟨rfl, S2⟩
        have S3 : Aside (SWK enc k w0 blk off (A1 ++ (Y1 ++ (U2 ++ (U1 ++ Z1)))).toArray w1) := S2
        clear S2
        go_wp2
        go_roundg (i - j + j)
        case measure => omega
        case rel =>
          obtain ⟨p1, p2, p3, p4⟩ := HP.out
          obtain ⟨u1, u2, u3⟩ := HU.out
          refine ⟨i - j, j, A1 ++ Y1, U2, U1, Z1, by congr 1; omega, rfl, by omega, hj, by omega, hjm, by omega, ⟨u3, u2, by rw [List.length_append]; omega, ?_⟩, by rw [List.append_assoc]; exact S3⟩
          rw [← p4, u1]; simp
      · have hgtz : ¬ (j : Int) < (i : Int) := by omega
        obtain ⟨U1, U2, HU⟩ : ∃ U1 U2 : List α, Hid (Y1 = U1 ++ U2 ∧ U1.length = j - i ∧ U2.length = i) := ⟨Y1.take (j - i), Y1.drop (j - i), by rw [List.take_append_drop], by rw [List.length_take]; have := HP.out.2.1; omega, by rw [List.length_drop]; have := HP.out.2.1; omega⟩
        have hc : Calls P 149 #[.slice (some ⟨blk, off, none⟩) sz cap, .int .i64 ((m : Int) - (i : Int)), .int .i64 ((m : Int) + (j : Int) - (i : Int)), .int .i64 i, .func (.func g) #[] cb] wr fun e w' => e = .returned (.tuple #[]) ∧ SWK enc k w0 blk off (A1 ++ (U2 ++ (U1 ++ (X1 ++ Z1)))).toArray w' := by
          obtain ⟨p1, p2, p3, p4⟩ := HP.out
          obtain ⟨u1, u2, u3⟩ := HU.out
          have hf := HF.out
          have hS := S1.out
          rw [u1] at hf hS
          have := HCS.out (m - i) (m + j - i) i A1 X1 U1 U2 Z1 wr (by simpa using hf) (by simpa using hS) (by omega) (by omega) p1 u3
          rw [show ((m - i : Nat) : Int) = (m : Int) - (i : Int) by omega, show ((m + j - i : Nat) : Int) = (m : Int) + (j : Int) - (i : Int) by omega] at this
          exact this
        have HC : Hid _ := hc
        clear hc S1
        go_wp2_with fail
        refine Calls.mono HC.out ?_
        rintro e w1 ⟨rfl, S2⟩
        have S3 : Aside (SWK enc k w0 blk off (A1 ++ (U2 ++ (U1 ++ (X1 ++ Z1)))).toArray w1) := S2
        clear S2
        go_wp2
        go_roundg (i + (j - i))
        case measure => omega
        case rel =>
          obtain ⟨p1, p2, p3, p4⟩ := HP.out
          obtain ⟨u1, u2, u3⟩ := HU.out
          refine ⟨i, j - i, A1, U2, U1, X1 ++ Z1, rfl, by congr 1; omega, hi, by omega, him, by omega, by omega, ⟨u3, u2, p3, ?_⟩, S3⟩
          rw [← p4, u1]; simp
end Go.Proofs.YtecacjddggljgaaDoor
namespace Go.Proofs.YtecacjddggljgaaDoor
open Go.Shelf Go.RowKit Go.Lib Go.Sort
set_option linter.unusedSectionVars false
variable [Inhabited E]
variable {P : Program} {α : Type} [Inhabited α]
theorem get_in (A Y Z : List α) (i t : Nat) (hi : i = A.length + t) (ht : t < Y.length) : (A ++ (Y ++ Z)).toArray[i]! = Y[t]! := by
  subst hi
  rw [getElem!_pos _ _ (by simp; omega), getElem!_pos Y t ht]
  simp [List.getElem_append_right, List.getElem_append_left, ht]
set_option maxHeartbeats 4000000 in
set_option maxRecDepth 1000000 in
theorem symMerge_one (k : Nat) (L : LaysS P k) (enc : α → List Value) (cf : α → α → Int) (ho : Ord3 cf) (g : Nat) (cb : Array Value) (blk off cap a m b sz : Nat) (d0 : Array α) (A Y Z : List α) (x : α) (w0 w : World)
    (R : RowK enc k w0 blk off d0) (hs : d0.size = sz) (eg : ∀ args w, (callFunc g args).run P w = .ok (.enter g args) w) (hcmp : CmpLays P g cb enc k cf blk off sz w0)
    (hd : (A ++ (x :: Y ++ Z)).length = sz) (S : SWK enc k w0 blk off (A ++ (x :: Y ++ Z)).toArray w)
    (ha : A.length = a) (hm : m = a + 1) (hb : m + Y.length = b) (hY : Up cf Y) (hsz : sz < 4611686018427387904) :
    Calls P 129 #[.slice (some ⟨blk, off, none⟩) sz cap, .int .i64 a, .int .i64 m, .int .i64 b, .func (.func g) #[] cb] w fun e w' => e = .returned (.tuple #[]) ∧ ∃ T, Stab cf (x :: Y) T ∧ SWK enc k w0 blk off (A ++ (T ++ Z)).toArray w' := by
  have mixed := L.mixed; have t0 := L.t0; have a0 := L.a0; have z0 := L.z0; have v0 := L.v0; have t3 := L.t3; have a3 := L.a3; have z3 := L.z3; have v3 := L.v3; have t4 := L.t4; have a4 := L.a4; have z4 := L.z4; have v4 := L.v4; have t35 := L.t35; have a35 := L.a35; have z35 := L.z35; have v35 := L.v35; have t70 := L.t70; have a70 := L.a70; have z70 := L.z70; have v70 := L.v70; have t87 := L.t87; have a87 := L.a87; have z87 := L.z87; have v87 := L.v87; have aE := L.aE; have zE := L.zE
  have F := L.f82
  have HC : Aside _ := hcmp
  have S0 : Aside (SWK enc k w0 blk off (A ++ (x :: Y ++ Z)).toArray w) := S
  have hlen : A.length + (1 + Y.length) + Z.length = sz := by simp at hd; omega
  have HL : Hid (A.length = a ∧ (A ++ (x :: Y ++ Z)).toArray.size = d0.size) := ⟨ha, by simpa [hs] using hd⟩
  obtain ⟨n, HN⟩ : ∃ n, Hid (n = Y.length) := ⟨_, rfl⟩
  have HB : Hid (b = m + n ∧ m = a + 1) := ⟨by rw [HN.out]; omega, hm⟩
  have hb1 : b ≤ m + n := by rw [HN.out]; omega
  have hb2 : m + n ≤ b := by rw [HN.out]; omega
  have hm1 : m ≤ a + 1 := by omega
  have hm2 : a + 1 ≤ m := by omega
  have hlsz : b ≤ sz := by omega
  have hq1 : ((m : Int) - (a : Int) == 1) = true := by simp; omega
  clear S hd hcmp hlen hb ha hm L
  go_enter F, Tryd.ntmps129
  go_wp2
  go_loopg [10, 11, 12] n (fun kx s10 s11 s12 wr => ∃ (p q : Nat), s10 = .int .i64 (m + p : Nat) ∧ s11 = .int .i64 (m + q : Nat) ∧ p ≤ q ∧ q ≤ n ∧ q - p ≤ kx ∧ Hid ((0 < p → cf Y[p - 1]! x < 0) ∧ (q < n → ¬ cf Y[q]! x < 0)) ∧ Aside (SWK enc k w0 blk off (A ++ (x :: Y ++ Z)).toArray wr))
  case atStart => exact ⟨0, n, by go_num, by rw [HB.out.1], by omega, by omega, by omega, ⟨fun h => absurd h (by omega), fun h => absurd h (by omega)⟩, S0⟩
  case round =>
    clear S0
    obtain ⟨p, q, rfl, rfl, hpq, hqn, hkx, HP, S1⟩ := hrel
    by_cases hlt : p < q
    · have hltz : (p : Int) < (q : Int) := by omega
      obtain ⟨t, ht⟩ : ∃ t, t = (p + q) / 2 := ⟨_, rfl⟩
      have htp : p ≤ t := by omega
      have htq : t < q := by omega
      have hmid : ((m : Int) + (p : Int) + ((m : Int) + (q : Int))) / 2 = (m : Int) + (t : Int) := by omega
      clear ht
      go_wp2_with fail
      clear hmid
      obtain ⟨y, hy⟩ : ∃ y, Y[t]! = y := ⟨_, rfl⟩
      have hS := S1.out
      have hlz := HL.out.2
      have gx : (A ++ (x :: Y ++ Z)).toArray[a]! = x := by rw [← HL.out.1]; exact get_mid A _ x
      have gy : (A ++ (x :: Y ++ Z)).toArray[m + t]! = y := by
        rw [← hy]
        have := get_in (A ++ [x]) Y Z (m + t) t (by simp [HL.out.1, HB.out.2]) (by rw [← HN.out]; omega)
        simpa using this
      obtain ⟨D, HD⟩ : ∃ D, Hid ((A ++ (x :: Y ++ Z)).toArray = D) := ⟨_, rfl⟩
      rw [HD.out] at hS hlz gx gy
      have ly := fun n' os' => hS.ld R hlz P (m + t) (by omega) n' os'
      have lx := fun n' os' => hS.ld R hlz P a (by omega) n' os'
      rw [gy] at ly
      rw [gx] at lx
      have hcg := fun n' os' => hS.cmp HC.out (by omega) y x n' os'
      have S2 : Aside (∀ n' os', SWK enc k w0 blk off D (grow (wr.drewN n') os')) := fun n' os' => hS.grown n' os'
      have pa : (0 : Int) ≤ (m : Int) + (t : Int) := by omega
      have ea : ((m : Int) + (t : Int)).toNat = m + t := by omega
      have ba : (m : Int) + (t : Int) < (sz : Int) := by omega
      have ba2 : (a : Int) < (sz : Int) := by omega
      clear hS hlz gx gy S1
      have HY : Hid (Y[t]! = y) := hy
      clear hy
      by_cases hlv : cf y x < 0
      · go_quiet_grown (first | (go_at_fn g; refine Calls.grown_of (hcg _ _)))
        have S3 := S2.out nq osq
        clear ly lx hcg S2
        generalize grow (wr.drewN nq) osq = w2 at S3 ⊢
        have S4 : Aside _ := S3
        clear S3
        go_wp2
        go_roundg (q - (t + 1))
        case measure => omega
        case rel => exact ⟨t + 1, q, by go_num, rfl, by omega, hqn, by omega, ⟨fun _ => by rw [Nat.add_sub_cancel, HY.out]; exact hlv, HP.out.2⟩, by rw [HD.out]; exact S4⟩
      · go_quiet_grown (first | (go_at_fn g; refine Calls.grown_of (hcg _ _)))
        have S3 := S2.out nq osq
        clear ly lx hcg S2
        generalize grow (wr.drewN nq) osq = w2 at S3 ⊢
        have S4 : Aside _ := S3
        clear S3
        go_wp2
        go_roundg (t - p)
        case measure => omega
        case rel => exact ⟨p, t, rfl, by go_num, by omega, by omega, by omega, ⟨HP.out.1, fun _ => by rw [HY.out]; exact hlv⟩, by rw [HD.out]; exact S4⟩
    · have hpq2 : p = q := by omega
      subst hpq2
      have S2 : Aside (SWK enc k w0 blk off (A ++ ((Y.take 0 ++ x :: Y.drop 0) ++ Z)).toArray wr) := by simpa using S1
      clear S1
      go_wp2
      go_loopg [13] p (fun kx s13 wr => ∃ (t : Nat), s13 = .int .i64 (a + t : Nat) ∧ t ≤ p ∧ p - t ≤ kx ∧ Aside (SWK enc k w0 blk off (A ++ ((Y.take t ++ x :: Y.drop t) ++ Z)).toArray wr))
      case atStart => exact ⟨0, by go_num, by omega, by omega, S2⟩
      case round =>
        clear S2
        obtain ⟨t, rfl, htp, hkx, S1⟩ := hrel
        by_cases hlt2 : t < p
        · have hltz : (a : Int) + (t : Int) < (m : Int) + (p : Int) - 1 := by omega
          obtain ⟨y, D1, D2, HQ, S4⟩ : ∃ (y : α) (D1 D2 : Array α), Hid (D1.size = sz ∧ D1[a + t]! = x ∧ D1[a + t + 1]! = y ∧ swp D1 (a + t) (a + t + 1) = D2 ∧ D2 = (A ++ ((Y.take (t + 1) ++ x :: Y.drop (t + 1)) ++ Z)).toArray) ∧ Aside (SWK enc k w0 blk off D1 wr) := by
            have hY1 : t < Y.length := by rw [← HN.out]; omega
            have hdr : Y.drop t = Y[t] :: Y.drop (t + 1) := List.drop_eq_getElem_cons hY1
            have htk : Y.take (t + 1) = Y.take t ++ [Y[t]] := List.take_succ_eq_append_getElem hY1
            have htl : (Y.take t).length = t := by rw [List.length_take]; omega
            have hsz1 : (A ++ ((Y.take t ++ x :: Y.drop t) ++ Z)).length = sz := by
              have h1 := HL.out.2
              rw [hs] at h1
              simp only [List.size_toArray, List.length_append, List.length_cons] at h1
              simp only [List.length_append, List.length_cons, List.length_take, List.length_drop]
              omega
            have hD : A ++ ((Y.take t ++ x :: Y.drop t) ++ Z) = (A ++ Y.take t) ++ x :: ([] ++ Y[t] :: (Y.drop (t + 1) ++ Z)) := by rw [hdr]; simp only [List.append_assoc, List.cons_append, List.nil_append]
            have ha1 : a + t = (A ++ Y.take t).length := by rw [List.length_append, htl, HL.out.1]
            refine ⟨Y[t], _, _, ⟨by simpa using hsz1, ?_, ?_, ?_, rfl⟩, S1⟩
            · rw [hD, ha1]; exact get_mid _ _ _
            · rw [hD, ha1]
              have h5 := get_mid ((A ++ Y.take t) ++ [x]) (Y.drop (t + 1) ++ Z) Y[t]
              rw [List.append_assoc (A ++ Y.take t), List.length_append] at h5
              exact h5
            · rw [hD, swp_list (A ++ Y.take t) [] (Y.drop (t + 1) ++ Z) x Y[t] _ _ ha1 (by rw [← ha1]; rfl), htk]; simp only [List.append_assoc, List.cons_append, List.nil_append]
          clear S1
          obtain ⟨q3, q4, q5, q6, q7⟩ := HQ.out
          have hds : D1.size = d0.size := q3.trans hs.symm
          have S2 := S4.out.swapped R (a + t) (a + t + 1) (by omega) (by omega)
          rw [q6, q4, q5] at S2
          have la := S4.out.ld1 R hds P (a + t) (by omega)
          have lb := S4.out.ld1 R hds P (a + t + 1) (by omega)
          have sa := S4.out.st1 R hds P (a + t) (by omega) y
          have sb := S4.out.st2 R hds P (a + t) (a + t + 1) (by omega) (by omega) y x
          rw [q4] at la
          rw [q5] at lb
          have na : (enc x).length = k := R.hk _
          have nb : (enc y).length = k := R.hk _
          have S5 : Aside _ := S2
          clear S2 S4 q3 q4 q5 q6 q7 hds
          generalize enc x = cI at S5 la sb na
          generalize enc y = cJ at S5 lb sa sb nb
          have ea : ((a : Int) + (t : Int)).toNat = a + t := by omega
          have eb : ((a : Int) + (t : Int) + 1).toNat = a + t + 1 := by omega
          have pa : (0 : Int) ≤ (a : Int) + (t : Int) := by omega
          have pb : (0 : Int) ≤ (a : Int) + (t : Int) + 1 := by omega
          have ba : (a : Int) + (t : Int) < (sz : Int) := by omega
          have bb : (a : Int) + (t : Int) + 1 < (sz : Int) := by omega
          go_wp2_with fail
          go_big_region_o
          clear la lb sa sb
          generalize (wr.drew.setCells blk (off + (a + t) * k) cJ).setCells blk (off + (a + t + 1) * k) cI = w2 at S5 ⊢
          go_wp2
          go_roundg (p - (t + 1))
          case measure => omega
          case rel => exact ⟨t + 1, by go_num, by omega, by omega, by rw [← HQ.out.2.2.2.2]; exact S5⟩
        · have hltz : ¬ (a : Int) + (t : Int) < (m : Int) + (p : Int) - 1 := by omega
          have htp2 : t = p := by omega
          subst htp2
          go_wp2
          refine bodyPost_ret (results_none (by kernel_rfl) _ _ _) rfl ?_
          have hYl : t ≤ Y.length := by rw [← HN.out]; omega
          have h1 := up_split ho hY t x hYl HP.out.1
          have h2 := up_rest ho hY t x (fun h => by have h3 := HP.out.2 (by rw [HN.out]; exact h); have := ho.anti Y[t]! x; omega)
          have hst : Stab cf (x :: Y) (Y.take t ++ x :: Y.drop t) := by
            have hp := List.pairwise_append.1 (show Up cf (Y.take t ++ Y.drop t) by rw [List.take_append_drop]; exact hY)
            have := stab_cross ho (X1 := []) (X2 := [x]) (Y1 := Y.take t) (Y2 := Y.drop t) (R1 := Y.take t) (R2 := x :: Y.drop t) (by simp [Up]) (by rw [List.take_append_drop]; exact hY) (by simp) (by simpa using h1) (stab_refl (by simpa [Up] using hp.1)) (stab_refl (List.pairwise_cons.2 ⟨h2, hp.2.1⟩))
            simpa using this
          exact ⟨rfl, _, hst, S1.out⟩
end Go.Proofs.YtecacjddggljgaaDoor
namespace Go.Proofs.YtecacjddggljgaaDoor
open Go.Shelf Go.RowKit Go.Lib Go.Sort
set_option linter.unusedSectionVars false
variable [Inhabited E]
variable {P : Program} {α : Type} [Inhabited α]
set_option maxHeartbeats 4000000 in
set_option maxRecDepth 1000000 in
theorem symMerge_last (k : Nat) (L : LaysS P k) (enc : α → List Value) (cf : α → α → Int) (ho : Ord3 cf) (g : Nat) (cb : Array Value) (blk off cap a m b sz : Nat) (d0 : Array α) (A X Z : List α) (y : α) (w0 w : World)
    (R : RowK enc k w0 blk off d0) (hs : d0.size = sz) (eg : ∀ args w, (callFunc g args).run P w = .ok (.enter g args) w) (hcmp : CmpLays P g cb enc k cf blk off sz w0)
    (hd : (A ++ (X ++ (y :: Z))).length = sz) (S : SWK enc k w0 blk off (A ++ (X ++ (y :: Z))).toArray w)
    (ha : A.length = a) (hm : a + X.length = m) (hb : b = m + 1) (hX1 : 1 < X.length) (hX : Up cf X) (hsz : sz < 4611686018427387904) :
    Calls P 129 #[.slice (some ⟨blk, off, none⟩) sz cap, .int .i64 a, .int .i64 m, .int .i64 b, .func (.func g) #[] cb] w fun e w' => e = .returned (.tuple #[]) ∧ ∃ T, Stab cf (X ++ [y]) T ∧ SWK enc k w0 blk off (A ++ (T ++ Z)).toArray w' := by
  have mixed := L.mixed; have t0 := L.t0; have a0 := L.a0; have z0 := L.z0; have v0 := L.v0; have t3 := L.t3; have a3 := L.a3; have z3 := L.z3; have v3 := L.v3; have t4 := L.t4; have a4 := L.a4; have z4 := L.z4; have v4 := L.v4; have t35 := L.t35; have a35 := L.a35; have z35 := L.z35; have v35 := L.v35; have t70 := L.t70; have a70 := L.a70; have z70 := L.z70; have v70 := L.v70; have t87 := L.t87; have a87 := L.a87; have z87 := L.z87; have v87 := L.v87; have aE := L.aE; have zE := L.zE
  have F := L.f82
  have HC : Aside _ := hcmp
  have S0 : Aside (SWK enc k w0 blk off (A ++ (X ++ (y :: Z))).toArray w) := S
  have hlen : A.length + X.length + (1 + Z.length) = sz := by simp at hd; omega
  have HL : Hid (A.length = a ∧ (A ++ (X ++ (y :: Z))).toArray.size = d0.size) := ⟨ha, by simpa [hs] using hd⟩
  obtain ⟨n, HN⟩ : ∃ n, Hid (n = X.length) := ⟨_, rfl⟩
  have HB : Hid (m = a + n ∧ b = m + 1) := ⟨by rw [HN.out]; omega, hb⟩
  have hm1 : m ≤ a + n := by rw [HN.out]; omega
  have hm2 : a + n ≤ m := by rw [HN.out]; omega
  have hb1 : b ≤ m + 1 := by omega
  have hb2 : m + 1 ≤ b := by omega
  have hn1 : 1 < n := by rw [HN.out]; omega
  have hlsz : b ≤ sz := by omega
  have hq1 : ((m : Int) - (a : Int) == 1) = false := by simp; omega
  have hq2 : ((b : Int) - (m : Int) == 1) = true := by simp; omega
  clear S hd hcmp hlen hb ha hm L
  go_enter F, Tryd.ntmps129
  go_wp2
  go_loopg [14, 15, 16] n (fun kx s14 s15 s16 wr => ∃ (p q : Nat), s14 = .int .i64 (a + p : Nat) ∧ s15 = .int .i64 (a + q : Nat) ∧ p ≤ q ∧ q ≤ n ∧ q - p ≤ kx ∧ Hid ((0 < p → ¬ cf y X[p - 1]! < 0) ∧ (q < n → cf y X[q]! < 0)) ∧ Aside (SWK enc k w0 blk off (A ++ (X ++ (y :: Z))).toArray wr))
  case atStart => exact ⟨0, n, by go_num, by rw [HB.out.1], by omega, by omega, by omega, ⟨fun h => absurd h (by omega), fun h => absurd h (by omega)⟩, S0⟩
  case round =>
    clear S0
    obtain ⟨p, q, rfl, rfl, hpq, hqn, hkx, HP, S1⟩ := hrel
    by_cases hlt : p < q
    · have hltz : (p : Int) < (q : Int) := by omega
      obtain ⟨t, ht⟩ : ∃ t, t = (p + q) / 2 := ⟨_, rfl⟩
      have htp : p ≤ t := by omega
      have htq : t < q := by omega
      have hmid : ((a : Int) + (p : Int) + ((a : Int) + (q : Int))) / 2 = (a : Int) + (t : Int) := by omega
      clear ht
      go_wp2_with fail
      clear hmid
      obtain ⟨x, hx⟩ : ∃ x, X[t]! = x := ⟨_, rfl⟩
      have hS := S1.out
      have hlz := HL.out.2
      have gy : (A ++ (X ++ (y :: Z))).toArray[m]! = y := by
        have := get_mid (A ++ X) Z y
        rw [List.append_assoc, List.length_append] at this
        rw [HB.out.1, HN.out, ← HL.out.1]; exact this
      have gx : (A ++ (X ++ (y :: Z))).toArray[a + t]! = x := by
        rw [← hx]
        exact get_in A X (y :: Z) (a + t) t (by rw [HL.out.1]) (by rw [← HN.out]; omega)
      obtain ⟨D, HD⟩ : ∃ D, Hid ((A ++ (X ++ (y :: Z))).toArray = D) := ⟨_, rfl⟩
      rw [HD.out] at hS hlz gx gy
      have ly := fun n' os' => hS.ld R hlz P m (by omega) n' os'
      have lx := fun n' os' => hS.ld R hlz P (a + t) (by omega) n' os'
      rw [gy] at ly
      rw [gx] at lx
      have hcg := fun n' os' => hS.cmp HC.out (by omega) y x n' os'
      have S2 : Aside (∀ n' os', SWK enc k w0 blk off D (grow (wr.drewN n') os')) := fun n' os' => hS.grown n' os'
      have pa : (0 : Int) ≤ (a : Int) + (t : Int) := by omega
      have ea : ((a : Int) + (t : Int)).toNat = a + t := by omega
      have ba : (a : Int) + (t : Int) < (sz : Int) := by omega
      have ba2 : (m : Int) < (sz : Int) := by omega
      clear hS hlz gx gy S1
      have HX : Hid (X[t]! = x) := hx
      clear hx
      by_cases hlv : cf y x < 0
      · go_quiet_grown (first | (go_at_fn g; refine Calls.grown_of (hcg _ _)))
        have S3 := S2.out nq osq
        clear ly lx hcg S2
        generalize grow (wr.drewN nq) osq = w2 at S3 ⊢
        have S4 : Aside _ := S3
        clear S3
        go_wp2
        go_roundg (t - p)
        case measure => omega
        case rel => exact ⟨p, t, rfl, by go_num, by omega, by omega, by omega, ⟨HP.out.1, fun _ => by rw [HX.out]; exact hlv⟩, by rw [HD.out]; exact S4⟩
      · go_quiet_grown (first | (go_at_fn g; refine Calls.grown_of (hcg _ _)))
        have S3 := S2.out nq osq
        clear ly lx hcg S2
        generalize grow (wr.drewN nq) osq = w2 at S3 ⊢
        have S4 : Aside _ := S3
        clear S3
        go_wp2
        go_roundg (q - (t + 1))
        case measure => omega
        case rel => exact ⟨t + 1, q, by go_num, rfl, by omega, hqn, by omega, ⟨fun _ => by rw [Nat.add_sub_cancel, HX.out]; exact hlv, HP.out.2⟩, by rw [HD.out]; exact S4⟩
    · have hpq2 : p = q := by omega
      subst hpq2
      have S2 : Aside (SWK enc k w0 blk off (A ++ ((X.take n ++ y :: X.drop n) ++ Z)).toArray wr) := by
        rw [HN.out, List.take_length, List.drop_length]
        simpa using S1
      clear S1
      go_wp2
      go_loopg [17] n (fun kx s17 wr => ∃ (t : Nat), s17 = .int .i64 (a + t : Nat) ∧ p ≤ t ∧ t ≤ n ∧ t - p ≤ kx ∧ Aside (SWK enc k w0 blk off (A ++ ((X.take t ++ y :: X.drop t) ++ Z)).toArray wr))
      case atStart => exact ⟨n, by rw [HB.out.1], by omega, by omega, by omega, S2⟩
      case round =>
        clear S2
        obtain ⟨t1, rfl, htp, htn, hkx, S1⟩ := hrel
        by_cases hlt2 : p < t1
        · obtain ⟨t, rfl⟩ : ∃ t, t1 = t + 1 := ⟨t1 - 1, by omega⟩
          have hltz : (a : Int) + (p : Int) < (a : Int) + ((t : Int) + 1) := by omega
          obtain ⟨x, D1, D2, HQ, S4⟩ : ∃ (x : α) (D1 D2 : Array α), Hid (D1.size = sz ∧ D1[a + t]! = x ∧ D1[a + (t + 1)]! = y ∧ swp D1 (a + (t + 1)) (a + t) = D2 ∧ D2 = (A ++ ((X.take t ++ y :: X.drop t) ++ Z)).toArray) ∧ Aside (SWK enc k w0 blk off D1 wr) := by
            have hX2 : t < X.length := by rw [← HN.out]; omega
            have hdr : X.drop t = X[t] :: X.drop (t + 1) := List.drop_eq_getElem_cons hX2
            have htk : X.take (t + 1) = X.take t ++ [X[t]] := List.take_succ_eq_append_getElem hX2
            have htl : (X.take t).length = t := by rw [List.length_take]; omega
            have hsz1 : (A ++ ((X.take (t + 1) ++ y :: X.drop (t + 1)) ++ Z)).length = sz := by
              have h1 := HL.out.2
              rw [hs] at h1
              simp only [List.size_toArray, List.length_append, List.length_cons] at h1
              simp only [List.length_append, List.length_cons, List.length_take, List.length_drop]
              omega
            have hD : A ++ ((X.take (t + 1) ++ y :: X.drop (t + 1)) ++ Z) = (A ++ X.take t) ++ X[t] :: ([] ++ y :: (X.drop (t + 1) ++ Z)) := by rw [htk]; simp only [List.append_assoc, List.cons_append, List.nil_append]
            have ha1 : a + t = (A ++ X.take t).length := by rw [List.length_append, htl, HL.out.1]
            refine ⟨X[t], _, _, ⟨by simpa using hsz1, ?_, ?_, ?_, rfl⟩, S1⟩
            · rw [hD, ha1]; exact get_mid _ _ _
            · rw [hD, ← Nat.add_assoc, ha1]
              have h5 := get_mid ((A ++ X.take t) ++ [X[t]]) (X.drop (t + 1) ++ Z) y
              rw [List.append_assoc (A ++ X.take t), List.length_append] at h5
              exact h5
            · rw [hD, swp_list' (A ++ X.take t) [] (X.drop (t + 1) ++ Z) X[t] y _ _ ha1 (by rw [← ha1]; rfl), hdr]; simp only [List.append_assoc, List.cons_append, List.nil_append]
          clear S1
          obtain ⟨q3, q4, q5, q6, q7⟩ := HQ.out
          have hds : D1.size = d0.size := q3.trans hs.symm
          have S2 := S4.out.swapped R (a + (t + 1)) (a + t) (by omega) (by omega)
          rw [q6, q4, q5] at S2
          have la := S4.out.ld1 R hds P (a + t) (by omega)
          have lb := S4.out.ld1 R hds P (a + (t + 1)) (by omega)
          have sa := S4.out.st1 R hds P (a + (t + 1)) (by omega) x
          have sb := S4.out.st2 R hds P (a + (t + 1)) (a + t) (by omega) (by omega) x y
          rw [q4] at la
          rw [q5] at lb
          have na : (enc x).length = k := R.hk _
          have nb : (enc y).length = k := R.hk _
          have S5 : Aside _ := S2
          clear S2 S4 q3 q4 q5 q6 q7 hds
          generalize enc x = cI at S5 la sa sb na
          generalize enc y = cJ at S5 lb sb nb
          have ea : ((a : Int) + (t : Int)).toNat = a + t := by omega
          have eb : ((a : Int) + ((t : Int) + 1)).toNat = a + (t + 1) := by omega
          have pa : (0 : Int) ≤ (a : Int) + (t : Int) := by omega
          have pb : (0 : Int) ≤ (a : Int) + ((t : Int) + 1) := by omega
          have ba : (a : Int) + (t : Int) < (sz : Int) := by omega
          have bb : (a : Int) + ((t : Int) + 1) < (sz : Int) := by omega
          have ec : (a : Int) + ((t : Int) + 1) - 1 = (a : Int) + (t : Int) := by omega
          go_wp2_with fail
          go_big_region_o
          clear la lb sa sb
          generalize (wr.drew.setCells blk (off + (a + (t + 1)) * k) cI).setCells blk (off + (a + t) * k) cJ = w2 at S5 ⊢
          go_wp2
          go_roundg (t - p)
          case measure => omega
          case rel => exact ⟨t, by go_num, by omega, by omega, by omega, by rw [← HQ.out.2.2.2.2]; exact S5⟩
        · have hltz : ¬ (a : Int) + (p : Int) < (a : Int) + (t1 : Int) := by omega
          have htp2 : t1 = p := by omega
          subst htp2
          go_wp2
          refine bodyPost_ret (results_none (by kernel_rfl) _ _ _) rfl ?_
          have hXl : t1 ≤ X.length := by rw [← HN.out]; omega
          have h1 := up_split_le ho hX t1 y hXl (fun h => by have h3 := HP.out.1 h; have := ho.anti y X[t1 - 1]!; omega)
          have h2 := up_rest_lt ho hX t1 y (fun h => HP.out.2 (by rw [HN.out]; exact h))
          have hst : Stab cf (X ++ [y]) (X.take t1 ++ y :: X.drop t1) := by
            have hp := List.pairwise_append.1 (show Up cf (X.take t1 ++ X.drop t1) by rw [List.take_append_drop]; exact hX)
            have := stab_ins ho (l := X) (S1 := X.take t1) (S2 := X.drop t1) (x := y) (by rw [List.take_append_drop]; exact stab_refl hX) h2 h1
            exact this
          exact ⟨rfl, _, hst, S1.out⟩
end Go.Proofs.YtecacjddggljgaaDoor

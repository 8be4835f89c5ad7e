/-
  slices.symMergeCmpFunc where one of the two pieces is one entry. slices.symMergeCmpFunc where the second piece is one entry.
-/
import Derived.Test.YtaamekkbgaeafaaDoorSym
namespace Go.Proofs.YtaamekkbgaeafaaDoor
open Go.Shelf Go.RowKit Go.Lib Go.Sort
set_option linter.unusedSectionVars false
variable [Inhabited E]
variable {P : Program} {α : Type} [Inhabited α]
theorem get_in (A Y Z : List α) (i t : Nat) (hi : i = A.length + t) (ht : t < Y.length) : (A ++ (Y ++ Z)).toArray[i]! = Y[t]! := by
  subst hi
  rw [getElem!_pos _ _ (by simp; omega), getElem!_pos Y t ht]
  simp [List.getElem_append_right, List.getElem_append_left, ht]
set_option maxHeartbeats 4000000 in
set_option maxRecDepth 1000000 in
theorem symMerge_one (k : Nat) (L : LaysS P k) (enc : α → List Value) (cf : α → α → Int) (ho : Ord3 cf) (g : Nat) (cb : Array Value) (blk off cap a m b sz : Nat) (d0 : Array α) (A Y Z : List α) (x : α) (w0 w : World)
    (R : RowK enc k w0 blk off d0) (hs : d0.size = sz) (eg : ∀ args w, (callFunc g args).run P w = .ok (.enter g args) w) (hcmp : CmpLays P g cb enc k cf blk off sz w0)
    (hd : (A ++ (x :: Y ++ Z)).length = sz) (S : SWK enc k w0 blk off (A ++ (x :: Y ++ Z)).toArray w)
    (ha : A.length = a) (hm : m = a + 1) (hb : m + Y.length = b) (hY : Up cf Y) (hsz : sz < 4611686018427387904) :
    Calls P 66 #[.slice (some ⟨blk, off, none⟩) sz cap, .int .i64 a, .int .i64 m, .int .i64 b, .func (.func g) #[] cb] w fun e w' => e = .returned (.tuple #[]) ∧ ∃ T, Stab cf (x :: Y) T ∧ SWK enc k w0 blk off (A ++ (T ++ Z)).toArray w' := by
  have mixed := L.mixed; have t0 := L.t0; have a0 := L.a0; have z0 := L.z0; have v0 := L.v0; have t3 := L.t3; have a3 := L.a3; have z3 := L.z3; have v3 := L.v3; have t4 := L.t4; have a4 := L.a4; have z4 := L.z4; have v4 := L.v4; have t35 := L.t35; have a35 := L.a35; have z35 := L.z35; have v35 := L.v35; have t70 := L.t70; have a70 := L.a70; have z70 := L.z70; have v70 := L.v70; have t87 := L.t87; have a87 := L.a87; have z87 := L.z87; have v87 := L.v87; have aE := L.aE; have zE := L.zE
  have F := L.f82
  have HC : Aside _ := hcmp
  have S0 : Aside (SWK enc k w0 blk off (A ++ (x :: Y ++ Z)).toArray w) := S
  have hlen : A.length + (1 + Y.length) + Z.length = sz := by simp at hd; omega
  have HL : Hid (A.length = a ∧ (A ++ (x :: Y ++ Z)).toArray.size = d0.size) := ⟨ha, by simpa [hs] using hd⟩
  obtain ⟨n, HN⟩ : ∃ n, Hid (n = Y.length) := ⟨_, rfl⟩
  have HB : Hid (b = m + n ∧ m = a + 1) := ⟨by rw [HN.out]; omega, hm⟩
  have hb1 : b ≤ m + n := by rw [HN.out]; omega
  have hb2 : m + n ≤ b := by rw [HN.out]; omega
  have hm1 : m ≤ a + 1 := by omega
  have hm2 : a + 1 ≤ m := by omega
  have hlsz : b ≤ sz := by omega
  have hq1 : ((m : Int) - (a : Int) == 1) = true := by simp; omega
  clear S hd hcmp hlen hb ha hm L
  go_enter F, Tryd.ntmps66
  go_wp2
  go_loopg [10, 11, 12] n (fun kx s10 s11 s12 wr => ∃ (p q : Nat), s10 = .int .i64 (m + p : Nat) ∧ s11 = .int .i64 (m + q : Nat) ∧ p ≤ q ∧ q ≤ n ∧ q - p ≤ kx ∧ Hid ((0 < p → cf Y[p - 1]! x < 0) ∧ (q < n → ¬ cf Y[q]! x < 0)) ∧ Aside (SWK enc k w0 blk off (A ++ (x :: Y ++ Z)).toArray wr))
  case atStart => exact ⟨0, n, by go_num, by rw [HB.out.1], by omega, by omega, by omega, ⟨fun h => absurd h (by omega), fun h => absurd h (by omega)⟩, S0⟩
  case round =>
    clear S0
    obtain ⟨p, q, rfl, rfl, hpq, hqn, hkx, HP, S1⟩ := hrel
    by_cases hlt : p < q
    · have hltz : (p : Int) < (q : Int) := by omega
      obtain ⟨t, ht⟩ : ∃ t, t = (p + q) / 2 := ⟨_, rfl⟩
      have htp : p ≤ t := by omega
      have htq : t < q := by omega
      have hmid : ((m : Int) + (p : Int) + ((m : Int) + (q : Int))) / 2 = (m : Int) + (t : Int) := by omega
      clear ht
      go_wp2_with fail
      clear hmid
      obtain ⟨y, hy⟩ : ∃ y, Y[t]! = y := ⟨_, rfl⟩
      have hS := S1.out
      have hlz := HL.out.2
      have gx : (A ++ (x :: Y ++ Z)).toArray[a]! = x := by rw [← HL.out.1]; exact get_mid A _ x
      have gy : (A ++ (x :: Y ++ Z)).toArray[m + t]! = y := by
        rw [← hy]
        have := get_in (A ++ [x]) Y Z (m + t) t (by simp [HL.out.1, HB.out.2]) (by rw [← HN.out]; omega)
        simpa using this
      obtain ⟨D, HD⟩ : ∃ D, Hid ((A ++ (x :: Y ++ Z)).toArray = D) := ⟨_, rfl⟩
      rw [HD.out] at hS hlz gx gy
      have ly := fun n' os' => hS.ld R hlz P (m + t) (by omega) n' os'
      have lx := fun n' os' => hS.ld R hlz P a (by omega) n' os'
      rw [gy] at ly
      rw [gx] at lx
      have hcg := fun n' os' => hS.cmp HC.out (by omega) y x n' os'
      have S2 : Aside (∀ n' os', SWK enc k w0 blk off D (grow (wr.drewN n') os')) := fun n' os' => hS.grown n' os'
      have pa : (0 : Int) ≤ (m : Int) + (t : Int) := by omega
      have ea : ((m : Int) + (t : Int)).toNat = m + t := by omega
      have ba : (m : Int) + (t : Int) < (sz : Int) := by omega
      have ba2 : (a : Int) < (sz : Int) := by omega
      clear hS hlz gx gy S1
      have HY : Hid (Y[t]! = y) := hy
      clear hy
      by_cases hlv : cf y x < 0
      · go_quiet_grown (first | (go_at_fn g; refine Calls.grown_of (hcg _ _)))
        have S3 := S2.out nq osq
        clear ly lx hcg S2
        generalize grow (wr.drewN nq) osq = w2 at S3 ⊢
        have S4 : Aside _ := S3
        clear S3
        go_wp2
        go_roundg (q - (t + 1))
        case measure => omega
        case rel => exact ⟨t + 1, q, by go_num, rfl, by omega, hqn, by omega, ⟨fun _ => by rw [Nat.add_sub_cancel, HY.out]; exact hlv, HP.out.2⟩, by rw [HD.out]; exact S4⟩
      · go_quiet_grown (first | (go_at_fn g; refine Calls.grown_of (hcg _ _)))
        have S3 := S2.out nq osq
        clear ly lx hcg S2
        generalize grow (wr.drewN nq) osq = w2 at S3 ⊢
        have S4 : Aside _ := S3
        clear S3
        go_wp2
        go_roundg (t - p)
        case measure => omega
        case rel => exact ⟨p, t, rfl, by go_num, by omega, by omega, by omega, ⟨HP.out.1, fun _ => by rw [HY.out]; exact hlv⟩, by rw [HD.out]; exact S4⟩
    · have hpq2 : p = q := by omega
      subst hpq2
      have S2 : Aside (SWK enc k w0 blk off (A ++ ((Y.take 0 ++ x :: Y.drop 0) ++ Z)).toArray wr) := by simpa using S1
      clear S1
      go_wp2
      go_loopg [13] p (fun kx s13 wr => ∃ (t : Nat), s13 = .int .i64 (a + t : Nat) ∧ t ≤ p ∧ p - t ≤ kx ∧ Aside (SWK enc k w0 blk off (A ++ ((Y.take t ++ x :: Y.drop t) ++ Z)).toArray wr))
      case atStart => exact ⟨0, by go_num, by omega, by omega, S2⟩
      case round =>
        clear S2
        obtain ⟨t, rfl, htp, hkx, S1⟩ := hrel
        by_cases hlt2 : t < p
        · have hltz : (a : Int) + (t : Int) < (m : Int) + (p : Int) - 1 := by omega
          obtain ⟨y, D1, D2, HQ, S4⟩ : ∃ (y : α) (D1 D2 : Array α), Hid (D1.size = sz ∧ D1[a + t]! = x ∧ D1[a + t + 1]! = y ∧ swp D1 (a + t) (a + t + 1) = D2 ∧ D2 = (A ++ ((Y.take (t + 1) ++ x :: Y.drop (t + 1)) ++ Z)).toArray) ∧ Aside (SWK enc k w0 blk off D1 wr) := by
            have hY1 : t < Y.length := by rw [← HN.out]; omega
            have hdr : Y.drop t = Y[t] :: Y.drop (t + 1) := List.drop_eq_getElem_cons hY1
            have htk : Y.take (t + 1) = Y.take t ++ [Y[t]] := List.take_succ_eq_append_getElem hY1
            have htl : (Y.take t).length = t := by rw [List.length_take]; omega
            have hsz1 : (A ++ ((Y.take t ++ x :: Y.drop t) ++ Z)).length = sz := by
              have h1 := HL.out.2
              rw [hs] at h1
              simp only [List.size_toArray, List.length_append, List.length_cons] at h1
              simp only [List.length_append, List.length_cons, List.length_take, List.length_drop]
              omega
            have hD : A ++ ((Y.take t ++ x :: Y.drop t) ++ Z) = (A ++ Y.take t) ++ x :: ([] ++ Y[t] :: (Y.drop (t + 1) ++ Z)) := by rw [hdr]; simp only [List.append_assoc, List.cons_append, List.nil_append]
            have ha1 : a + t = (A ++ Y.take t).length := by rw [List.length_append, htl, HL.out.1]
            refine ⟨Y[t], _, _, ⟨by simpa using hsz1, ?_, ?_, ?_, rfl⟩, S1⟩
            · rw [hD, ha1]; exact get_mid _ _ _
            · rw [hD, ha1]
              have h5 := get_mid ((A ++ Y.take t) ++ [x]) (Y.drop (t + 1) ++ Z) Y[t]
              rw [List.append_assoc (A ++ Y.take t), List.length_append] at h5
              exact h5
            · rw [hD, swp_list (A ++ Y.take t) [] (Y.drop (t + 1) ++ Z) x Y[t] _ _ ha1 (by rw [← ha1]; rfl), htk]; simp only [List.append_assoc, List.cons_append, List.nil_append]
          clear S1
          obtain ⟨q3, q4, q5, q6, q7⟩ := HQ.out
          have hds : D1.size = d0.size := q3.trans hs.symm
          have S2 := S4.out.swapped R (a + t) (a + t + 1) (by omega) (by omega)
          rw [q6, q4, q5] at S2
          have la := S4.out.ld1 R hds P (a + t) (by omega)
          have lb := S4.out.ld1 R hds P (a + t + 1) (by omega)
          have sa := S4.out.st1 R hds P (a + t) (by omega) y
          have sb := S4.out.st2 R hds P (a + t) (a + t + 1) (by omega) (by omega) y x
          rw [q4] at la
          rw [q5] at lb
          have na : (enc x).length = k := R.hk _
          have nb : (enc y).length = k := R.hk _
          have S5 : Aside _ := S2
          clear S2 S4 q3 q4 q5 q6 q7 hds
          generalize enc x = cI at S5 la sb na
          generalize enc y = cJ at S5 lb sa sb nb
          have ea : ((a : Int) + (t : Int)).toNat = a + t := by omega
          have eb : ((a : Int) + (t : Int) + 1).toNat = a + t + 1 := by omega
          have pa : (0 : Int) ≤ (a : Int) + (t : Int) := by omega
          have pb : (0 : Int) ≤ (a : Int) + (t : Int) + 1 := by omega
          have ba : (a : Int) + (t : Int) < (sz : Int) := by omega
          have bb : (a : Int) + (t : Int) + 1 < (sz : Int) := by omega
          go_wp2_with fail
          go_big_region_o
          clear la lb sa sb
          generalize (wr.drew.setCells blk (off + (a + t) * k) cJ).setCells blk (off + (a + t + 1) * k) cI = w2 at S5 ⊢
          go_wp2
          go_roundg (p - (t + 1))
          case measure => omega
          case rel => exact ⟨t + 1, by go_num, by omega, by omega, by rw [← HQ.out.2.2.2.2]; exact S5⟩
        · have hltz : ¬ (a : Int) + (t : Int) < (m : Int) + (p : Int) - 1 := by omega
          have htp2 : t = p := by omega
          subst htp2
          go_wp2
          refine bodyPost_ret (results_none (by kernel_rfl) _ _ _) rfl ?_
          have hYl : t ≤ Y.length := by rw [← HN.out]; omega
          have h1 := up_split ho hY t x hYl HP.out.1
          have h2 := up_rest ho hY t x (fun h => by have h3 := HP.out.2 (by rw [HN.out]; exact h); have := ho.anti Y[t]! x; omega)
          have hst : Stab cf (x :: Y) (Y.take t ++ x :: Y.drop t) := by
            have hp := List.pairwise_append.1 (show Up cf (Y.take t ++ Y.drop t) by rw [List.take_append_drop]; exact hY)
            have := stab_cross ho (X1 := []) (X2 := [x]) (Y1 := Y.take t) (Y2 := Y.drop t) (R1 := Y.take t) (R2 := x :: Y.drop t) (by simp [Up]) (by rw [List.take_append_drop]; exact hY) (by simp) (by simpa using h1) (stab_refl (by simpa [Up] using hp.1)) (stab_refl (List.pairwise_cons.2 ⟨h2, hp.2.1⟩))
            simpa using this
          exact ⟨rfl, _, hst, S1.out⟩
end Go.Proofs.YtaamekkbgaeafaaDoor
namespace Go.Proofs.YtaamekkbgaeafaaDoor
open Go.Shelf Go.RowKit Go.Lib Go.Sort
set_option linter.unusedSectionVars false
variable [Inhabited E]
variable {P : Program} {α : Type} [Inhabited α]
set_option maxHeartbeats 4000000 in
set_option maxRecDepth 1000000 in
theorem symMerge_last (k : Nat) (L : LaysS P k) (enc : α → List Value) (cf : α → α → Int) (ho : Ord3 cf) (g : Nat) (cb : Array Value) (blk off cap a m b sz : Nat) (d0 : Array α) (A X Z : List α) (y : α) (w0 w : World)
    (R : RowK enc k w0 blk off d0) (hs : d0.size = sz) (eg : ∀ args w, (callFunc g args).run P w = .ok (.enter g args) w) (hcmp : CmpLays P g cb enc k cf blk off sz w0)
    (hd : (A ++ (X ++ (y :: Z))).length = sz) (S : SWK enc k w0 blk off (A ++ (X ++ (y :: Z))).toArray w)
    (ha : A.length = a) (hm : a + X.length = m) (hb : b = m + 1) (hX1 : 1 < X.length) (hX : Up cf X) (hsz : sz < 4611686018427387904) :
    Calls P 66 #[.slice (some ⟨blk, off, none⟩) sz cap, .int .i64 a, .int .i64 m, .int .i64 b, .func (.func g) #[] cb] w fun e w' => e = .returned (.tuple #[]) ∧ ∃ T, Stab cf (X ++ [y]) T ∧ SWK enc k w0 blk off (A ++ (T ++ Z)).toArray w' := by
  have mixed := L.mixed; have t0 := L.t0; have a0 := L.a0; have z0 := L.z0; have v0 := L.v0; have t3 := L.t3; have a3 := L.a3; have z3 := L.z3; have v3 := L.v3; have t4 := L.t4; have a4 := L.a4; have z4 := L.z4; have v4 := L.v4; have t35 := L.t35; have a35 := L.a35; have z35 := L.z35; have v35 := L.v35; have t70 := L.t70; have a70 := L.a70; have z70 := L.z70; have v70 := L.v70; have t87 := L.t87; have a87 := L.a87; have z87 := L.z87; have v87 := L.v87; have aE := L.aE; have zE := L.zE
  have F := L.f82
  have HC : Aside _ := hcmp
  have S0 : Aside (SWK enc k w0 blk off (A ++ (X ++ (y :: Z))).toArray w) := S
  have hlen : A.length + X.length + (1 + Z.length) = sz := by simp at hd; omega
  have HL : Hid (A.length = a ∧ (A ++ (X ++ (y :: Z))).toArray.size = d0.size) := ⟨ha, by simpa [hs] using hd⟩
  obtain ⟨n, HN⟩ : ∃ n, Hid (n = X.length) := ⟨_, rfl⟩
  have HB : Hid (m = a + n ∧ b = m + 1) := ⟨by rw [HN.out]; omega, hb⟩
  have hm1 : m ≤ a + n := by rw [HN.out]; omega
  have hm2 : a + n ≤ m := by rw [HN.out]; omega
  have hb1 : b ≤ m + 1 := by omega
  have hb2 : m + 1 ≤ b := by omega
  have hn1 : 1 < n := by rw [HN.out]; omega
  have hlsz : b ≤ sz := by omega
  have hq1 : ((m : Int) - (a : Int) == 1) = false := by simp; omega
  have hq2 : ((b : Int) - (m : Int) == 1) = true := by simp; omega
  clear S hd hcmp hlen hb ha hm L
  go_enter F, Tryd.ntmps66
  go_wp2
  go_loopg [14, 15, 16] n (fun kx s14 s15 s16 wr => ∃ (p q : Nat), s14 = .int .i64 (a + p : Nat) ∧ s15 = .int .i64 (a + q : Nat) ∧ p ≤ q ∧ q ≤ n ∧ q - p ≤ kx ∧ Hid ((0 < p → ¬ cf y X[p - 1]! < 0) ∧ (q < n → cf y X[q]! < 0)) ∧ Aside (SWK enc k w0 blk off (A ++ (X ++ (y :: Z))).toArray wr))
  case atStart => exact ⟨0, n, by go_num, by rw [HB.out.1], by omega, by omega, by omega, ⟨fun h => absurd h (by omega), fun h => absurd h (by omega)⟩, S0⟩
  case round =>
    clear S0
    obtain ⟨p, q, rfl, rfl, hpq, hqn, hkx, HP, S1⟩ := hrel
    by_cases hlt : p < q
    · have hltz : (p : Int) < (q : Int) := by omega
      obtain ⟨t, ht⟩ : ∃ t, t = (p + q) / 2 := ⟨_, rfl⟩
      have htp : p ≤ t := by omega
      have htq : t < q := by omega
      have hmid : ((a : Int) + (p : Int) + ((a : Int) + (q : Int))) / 2 = (a : Int) + (t : Int) := by omega
      clear ht
      go_wp2_with fail
      clear hmid
      obtain ⟨x, hx⟩ : ∃ x, X[t]! = x := ⟨_, rfl⟩
      have hS := S1.out
      have hlz := HL.out.2
      have gy : (A ++ (X ++ (y :: Z))).toArray[m]! = y := by
        have := get_mid (A ++ X) Z y
        rw [List.append_assoc, List.length_append] at this
        rw [HB.out.1, HN.out, ← HL.out.1]; exact this
      have gx : (A ++ (X ++ (y :: Z))).toArray[a + t]! = x := by
        rw [← hx]
        exact get_in A X (y :: Z) (a + t) t (by rw [HL.out.1]) (by rw [← HN.out]; omega)
      obtain ⟨D, HD⟩ : ∃ D, Hid ((A ++ (X ++ (y :: Z))).toArray = D) := ⟨_, rfl⟩
      rw [HD.out] at hS hlz gx gy
      have ly := fun n' os' => hS.ld R hlz P m (by omega) n' os'
      have lx := fun n' os' => hS.ld R hlz P (a + t) (by omega) n' os'
      rw [gy] at ly
      rw [gx] at lx
      have hcg := fun n' os' => hS.cmp HC.out (by omega) y x n' os'
      have S2 : Aside (∀ n' os', SWK enc k w0 blk off D (grow (wr.drewN n') os')) := fun n' os' => hS.grown n' os'
      have pa : (0 : Int) ≤ (a : Int) + (t : Int) := by omega
      have ea : ((a : Int) + (t : Int)).toNat = a + t := by omega
      have ba : (a : Int) + (t : Int) < (sz : Int) := by omega
      have ba2 : (m : Int) < (sz : Int) := by omega
      clear hS hlz gx gy S1
      have HX : Hid (X[t]! = x) := hx
      clear hx
      by_cases hlv : cf y x < 0
      · go_quiet_grown (first | (go_at_fn g; refine Calls.grown_of (hcg _ _)))
        have S3 := S2.out nq osq
        clear ly lx hcg S2
        generalize grow (wr.drewN nq) osq = w2 at S3 ⊢
        have S4 : Aside _ := S3
        clear S3
        go_wp2
        go_roundg (t - p)
        case measure => omega
        case rel => exact ⟨p, t, rfl, by go_num, by omega, by omega, by omega, ⟨HP.out.1, fun _ => by rw [HX.out]; exact hlv⟩, by rw [HD.out]; exact S4⟩
      · go_quiet_grown (first | (go_at_fn g; refine Calls.grown_of (hcg _ _)))
        have S3 := S2.out nq osq
        clear ly lx hcg S2
        generalize grow (wr.drewN nq) osq = w2 at S3 ⊢
        have S4 : Aside _ := S3
        clear S3
        go_wp2
        go_roundg (q - (t + 1))
        case measure => omega
        case rel => exact ⟨t + 1, q, by go_num, rfl, by omega, hqn, by omega, ⟨fun _ => by rw [Nat.add_sub_cancel, HX.out]; exact hlv, HP.out.2⟩, by rw [HD.out]; exact S4⟩
    · have hpq2 : p = q := by omega
      subst hpq2
      have S2 : Aside (SWK enc k w0 blk off (A ++ ((X.take n ++ y :: X.drop n) ++ Z)).toArray wr) := by
        rw [HN.out, List.take_length, List.drop_length]
        simpa using S1
      clear S1
      go_wp2
      go_loopg [17] n (fun kx s17 wr => ∃ (t : Nat), s17 = .int .i64 (a + t : Nat) ∧ p ≤ t ∧ t ≤ n ∧ t - p ≤ kx ∧ Aside (SWK enc k w0 blk off (A ++ ((X.take t ++ y :: X.drop t) ++ Z)).toArray wr))
      case atStart => exact ⟨n, by rw [HB.out.1], by omega, by omega, by omega, S2⟩
      case round =>
        clear S2
        obtain ⟨t1, rfl, htp, htn, hkx, S1⟩ := hrel
        by_cases hlt2 : p < t1
        · obtain ⟨t, rfl⟩ : ∃ t, t1 = t + 1 := ⟨t1 - 1, by omega⟩
          have hltz : (a : Int) + (p : Int) < (a : Int) + ((t : Int) + 1) := by omega
          obtain ⟨x, D1, D2, HQ, S4⟩ : ∃ (x : α) (D1 D2 : Array α), Hid (D1.size = sz ∧ D1[a + t]! = x ∧ D1[a + (t + 1)]! = y ∧ swp D1 (a + (t + 1)) (a + t) = D2 ∧ D2 = (A ++ ((X.take t ++ y :: X.drop t) ++ Z)).toArray) ∧ Aside (SWK enc k w0 blk off D1 wr) := by
            have hX2 : t < X.length := by rw [← HN.out]; omega
            have hdr : X.drop t = X[t] :: X.drop (t + 1) := List.drop_eq_getElem_cons hX2
            have htk : X.take (t + 1) = X.take t ++ [X[t]] := List.take_succ_eq_append_getElem hX2
            have htl : (X.take t).length = t := by rw [List.length_take]; omega
            have hsz1 : (A ++ ((X.take (t + 1) ++ y :: X.drop (t + 1)) ++ Z)).length = sz := by
              have h1 := HL.out.2
              rw [hs] at h1
              simp only [List.size_toArray, List.length_append, List.length_cons] at h1
              simp only [List.length_append, List.length_cons, List.length_take, List.length_drop]
              omega
            have hD : A ++ ((X.take (t + 1) ++ y :: X.drop (t + 1)) ++ Z) = (A ++ X.take t) ++ X[t] :: ([] ++ y :: (X.drop (t + 1) ++ Z)) := by rw [htk]; simp only [List.append_assoc, List.cons_append, List.nil_append]
            have ha1 : a + t = (A ++ X.take t).length := by rw [List.length_append, htl, HL.out.1]
            refine ⟨X[t], _, _, ⟨by simpa using hsz1, ?_, ?_, ?_, rfl⟩, S1⟩
            · rw [hD, ha1]; exact get_mid _ _ _
            · rw [hD, ← Nat.add_assoc, ha1]
              have h5 := get_mid ((A ++ X.take t) ++ [X[t]]) (X.drop (t + 1) ++ Z) y
              rw [List.append_assoc (A ++ X.take t), List.length_append] at h5
              exact h5
            · rw [hD, swp_list' (A ++ X.take t) [] (X.drop (t + 1) ++ Z) X[t] y _ _ ha1 (by rw [← ha1]; rfl), hdr]; simp only [List.append_assoc, List.cons_append, List.nil_append]
          clear S1
          obtain ⟨q3, q4, q5, q6, q7⟩ := HQ.out
          have hds : D1.size = d0.size := q3.trans hs.symm
          have S2 := S4.out.swapped R (a + (t + 1)) (a + t) (by omega) (by omega)
          rw [q6, q4, q5] at S2
          have la := S4.out.ld1 R hds P (a + t) (by omega)
          have lb := S4.out.ld1 R hds P (a + (t + 1)) (by omega)
          have sa := S4.out.st1 R hds P (a + (t + 1)) (by omega) x
          have sb := S4.out.st2 R hds P (a + (t + 1)) (a + t) (by omega) (by omega) x y
          rw [q4] at la
          rw [q5] at lb
          have na : (enc x).length = k := R.hk _
          have nb : (enc y).length = k := R.hk _
          have S5 : Aside _ := S2
          clear S2 S4 q3 q4 q5 q6 q7 hds
          generalize enc x = cI at S5 la sa sb na
          generalize enc y = cJ at S5 lb sb nb
          have ea : ((a : Int) + (t : Int)).toNat = a + t := by omega
          have eb : ((a : Int) + ((t : Int) + 1)).toNat = a + (t + 1) := by omega
          have pa : (0 : Int) ≤ (a : Int) + (t : Int) := by omega
          have pb : (0 : Int) ≤ (a : Int) + ((t : Int) + 1) := by omega
          have ba : (a : Int) + (t : Int) < (sz : Int) := by omega
          have bb : (a : Int) + ((t : Int) + 1) < (sz : Int) := by omega
          have ec : (a : Int) + ((t : Int) + 1) - 1 = (a : Int) + (t : Int) := by omega
          go_wp2_with fail
          go_big_region_o
          clear la lb sa sb
          generalize (wr.drew.setCells blk (off + (a + (t + 1)) * k) cI).setCells blk (off + (a + t) * k) cJ = w2 at S5 ⊢
          go_wp2
          go_roundg (t - p)
          case measure => omega
          case rel => exact ⟨t, by go_num, by omega, by omega, by omega, by rw [← HQ.out.2.2.2.2]; exact S5⟩
        · have hltz : ¬ (a : Int) + (p : Int) < (a : Int) + (t1 : Int) := by omega
          have htp2 : t1 = p := by omega
          subst htp2
          go_wp2
          refine bodyPost_ret (results_none (by kernel_rfl) _ _ _) rfl ?_
          have hXl : t1 ≤ X.length := by rw [← HN.out]; omega
          have h1 := up_split_le ho hX t1 y hXl (fun h => by have h3 := HP.out.1 h; have := ho.anti y X[t1 - 1]!; omega)
          have h2 := up_rest_lt ho hX t1 y (fun h => HP.out.2 (by rw [HN.out]; exact h))
          have hst : Stab cf (X ++ [y]) (X.take t1 ++ y :: X.drop t1) := by
            have hp := List.pairwise_append.1 (show Up cf (X.take t1 ++ X.drop t1) by rw [List.take_append_drop]; exact hX)
            have := stab_ins ho (l := X) (S1 := X.take t1) (S2 := X.drop t1) (x := y) (by rw [List.take_append_drop]; exact stab_refl hX) h2 h1
            exact this
          exact ⟨rfl, _, hst, S1.out⟩
end Go.Proofs.YtaamekkbgaeafaaDoor

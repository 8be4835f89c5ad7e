/-
  slices.symMergeCmpFunc: what it lays, for two sorted pieces of any length.
-/
import Derived.Test.YtecacjddggljgaaDoorPartAC
import Derived.Deep.DeepCutAuto
namespace Go.Proofs.YtecacjddggljgaaDoor
open Go.Shelf Go.RowKit Go.Lib Go.Sort
set_option linter.unusedSectionVars false
variable [Inhabited E]
variable {P : Program} {α : Type} [Inhabited α]
theorem sym_cross {cf : α → α → Int} (ho : Ord3 cf) {X Y : List α} (hX : Up cf X) (hY : Up cf Y) (a m mid b s lo hi : Nat) (hm : a + X.length = m) (hb : m + Y.length = b)
    (b1 : a ≤ lo) (b2 : lo ≤ s) (b3 : s ≤ hi) (b4 : hi ≤ m) (b5 : hi ≤ mid) (b6 : mid + m ≤ lo + b) (hlo : lo = a ∨ lo + b = mid + m) (hhi : hi = m ∨ hi = mid)
    (h1 : lo < s → ¬ cf Y[mid - s]! X[s - 1 - a]! < 0) (h2 : s < hi → cf Y[mid - 1 - s]! X[s - a]! < 0) :
    (∀ x ∈ X.take (s - a), ∀ y ∈ Y.drop (mid - s), cf x y ≤ 0) ∧ (∀ y ∈ Y.take (mid - s), ∀ x ∈ X.drop (s - a), cf y x < 0) := by
  constructor
  · intro x hx
    by_cases c : lo < s
    · have h3 := h1 c
      have h4 : cf X[s - a - 1]! Y[mid - s]! ≤ 0 := by
        have := ho.anti Y[mid - s]! X[s - a - 1]!
        rw [show s - 1 - a = s - a - 1 by omega] at h3
        omega
      exact up_rest ho hY (mid - s) x (fun _ => up_split_le ho hX (s - a) _ (by omega) (fun _ => h4) x hx)
    · rcases hlo with h | h
      · rw [show s - a = 0 by omega] at hx; simp at hx
      · intro y hy
        rw [List.drop_eq_nil_of_le (by omega)] at hy; cases hy
  · intro y hy
    by_cases c : s < hi
    · have h3 := h2 c
      rw [show mid - 1 - s = mid - s - 1 by omega] at h3
      exact up_rest_lt ho hX (s - a) y (fun _ => up_split ho hY (mid - s) _ (by omega) (fun _ => h3) y hy)
    · rcases hhi with h | h
      · intro x hx
        rw [List.drop_eq_nil_of_le (by omega)] at hx; cases hx
      · rw [show mid - s = 0 by omega] at hy; simp at hy
/-- What a merge of X and Y lays, wherever they lie. -/
def MergesAt (P : Program) (k : Nat) (enc : α → List Value) (cf : α → α → Int) (g : Nat) (cb : Array Value) (blk off cap sz : Nat) (w0 : World) (X Y : List α) : Prop :=
  ∀ (A Z : List α) (a m b : Nat) (w : World), (A ++ (X ++ (Y ++ Z))).length = sz → A.length = a → a + X.length = m → m + Y.length = b → SWK enc k w0 blk off (A ++ (X ++ (Y ++ Z))).toArray w →
    Calls P 129 #[.slice (some ⟨blk, off, none⟩) sz cap, .int .i64 a, .int .i64 m, .int .i64 b, .func (.func g) #[] cb] w fun e w' => e = .returned (.tuple #[]) ∧ ∃ T, Stab cf (X ++ Y) T ∧ SWK enc k w0 blk off (A ++ (T ++ Z)).toArray w'
set_option maxHeartbeats 8000000 in
set_option maxRecDepth 1000000 in
theorem symMerge_step (k : Nat) (L : LaysS P k) (enc : α → List Value) (cf : α → α → Int) (ho : Ord3 cf) (g : Nat) (cb : Array Value) (blk off cap sz : Nat) (d0 : Array α) (X Y : List α) (w0 : World)
    (R : RowK enc k w0 blk off d0) (hs : d0.size = sz) (eg : ∀ args w, (callFunc g args).run P w = .ok (.enter g args) w) (hcmp : CmpLays P g cb enc k cf blk off sz w0) (hsz : sz < 4611686018427387904)
    (hX2 : 1 < X.length) (hY2 : 1 < Y.length) (hX : Up cf X) (hY : Up cf Y)
    (IH : ∀ X' Y' : List α, 0 < X'.length → 0 < Y'.length → Up cf X' → Up cf Y' → X'.length + Y'.length < X.length + Y.length → MergesAt P k enc cf g cb blk off cap sz w0 X' Y') :
    MergesAt P k enc cf g cb blk off cap sz w0 X Y := by
  intro A Z a m b w hd ha hm hb S
  have HR : Aside _ := fun a m b A X Y Z w hd S ha hm hb hX hY => rotate_gen k L enc g cb blk off cap a m b sz d0 A X Y Z w0 w R hs hd S ha hm hb hX hY hsz
  have mixed := L.mixed; have t0 := L.t0; have a0 := L.a0; have z0 := L.z0; have v0 := L.v0; have t3 := L.t3; have a3 := L.a3; have z3 := L.z3; have v3 := L.v3; have t4 := L.t4; have a4 := L.a4; have z4 := L.z4; have v4 := L.v4; have t35 := L.t35; have a35 := L.a35; have z35 := L.z35; have v35 := L.v35; have t70 := L.t70; have a70 := L.a70; have z70 := L.z70; have v70 := L.v70; have t87 := L.t87; have a87 := L.a87; have z87 := L.z87; have v87 := L.v87; have aE := L.aE; have zE := L.zE
  have F := L.f82
  have e82 : ∀ args w, (callFunc 129 args).run P w = .ok (.enter 129 args) w := enters_of L.f82 (by kernel_rfl) rfl
  have e89 : ∀ args w, (callFunc 142 args).run P w = .ok (.enter 142 args) w := enters_of L.f89 (by kernel_rfl) rfl
  have HC : Aside _ := hcmp
  have HI : Aside _ := IH
  have S0 : Aside (SWK enc k w0 blk off (A ++ (X ++ (Y ++ Z))).toArray w) := S
  have hlen : A.length + X.length + Y.length + Z.length = sz := by simp at hd; omega
  have HL : Hid (A.length = a ∧ a + X.length = m ∧ m + Y.length = b ∧ (A ++ (X ++ (Y ++ Z))).toArray.size = d0.size) := ⟨ha, hm, hb, by simpa [hs] using hd⟩
  have hm1 : a + 1 < m := by omega
  have hb1 : m + 1 < b := by omega
  have hlsz : b ≤ sz := by omega
  have hq1 : ((m : Int) - (a : Int) == 1) = false := by simp; omega
  have hq2 : ((b : Int) - (m : Int) == 1) = false := by simp; omega
  obtain ⟨mid, hmid⟩ : ∃ mid, mid = (a + b) / 2 := ⟨_, rfl⟩
  have hmida : a < mid := by omega
  have hmidb : mid < b := by omega
  have hmidz : ((a : Int) + (b : Int)) / 2 = (mid : Int) := by omega
  obtain ⟨lo, hi, b1, b2, b3, b4, b5, HH, hlt0, hge0⟩ : ∃ lo hi : Nat, a ≤ lo ∧ lo ≤ hi ∧ hi ≤ m ∧ hi ≤ mid ∧ mid + m ≤ lo + b ∧ Hid ((lo = a ∨ lo + b = mid + m) ∧ (hi = m ∨ hi = mid)) ∧ (mid < m → lo + b = mid + m ∧ hi = mid) ∧ (¬ mid < m → lo = a ∧ hi = m) := by
    by_cases c : mid < m
    · exact ⟨mid + m - b, mid, by omega, by omega, by omega, by omega, by omega, ⟨.inr (by omega), .inr rfl⟩, fun _ => ⟨by omega, rfl⟩, fun h => absurd c h⟩
    · exact ⟨a, m, by omega, by omega, by omega, by omega, by omega, ⟨.inl rfl, .inl rfl⟩, fun h => absurd h c, fun _ => ⟨rfl, rfl⟩⟩
  have HLH : Hid _ := And.intro hlt0 hge0
  clear S hd hcmp hlen hb ha hm L IH hmid hlt0 hge0
  go_enter F, Tryd.ntmps129
  go_upto_if 140 with fail
  go_cut [20, 21] (fun s20 s21 wx => s20 = .int .i64 (lo : Int) ∧ s21 = .int .i64 (hi : Int) ∧ wx = w)
  case first =>
    as_aux_lemma =>
      by_cases c : mid < m
      · have cz : (mid : Int) < (m : Int) := by omega
        obtain ⟨c1, c2⟩ := HLH.out.1 c
        go_wp2
        go_meet
        case rel => exact ⟨by congr 1; omega, by rw [c2], rfl⟩
      · have cz : ¬ (mid : Int) < (m : Int) := by omega
        obtain ⟨c1, c2⟩ := HLH.out.2 c
        go_wp2
        go_meet
        case rel => exact ⟨by rw [c1], by rw [c2], rfl⟩
  case rest =>
    as_aux_lemma =>
      obtain ⟨rfl, rfl, rfl⟩ := hcut
      clear HLH hmidz
      go_wp2
      go_loopg [20, 21, 23] (hi - lo) (fun kx s20 s21 s23 wr => ∃ (p q : Nat), s20 = .int .i64 (p : Int) ∧ s21 = .int .i64 (q : Int) ∧ lo ≤ p ∧ p ≤ q ∧ q ≤ hi ∧ q - p ≤ kx ∧ Hid ((lo < p → ¬ cf Y[mid - p]! X[p - 1 - a]! < 0) ∧ (q < hi → cf Y[mid - 1 - q]! X[q - a]! < 0)) ∧ Aside (SWK enc k w0 blk off (A ++ (X ++ (Y ++ Z))).toArray wr))
      case atStart => exact ⟨lo, hi, rfl, rfl, by omega, by omega, by omega, by omega, ⟨fun h => absurd h (by omega), fun h => absurd h (by omega)⟩, S0⟩
      case round =>
        clear S0
        obtain ⟨p, q, rfl, rfl, hlp, hpq, hqn, hkx, HP, S1⟩ := hrel
        by_cases hlt : p < q
        · have hltz : (p : Int) < (q : Int) := by omega
          obtain ⟨c, hc⟩ : ∃ c, c = (p + q) / 2 := ⟨_, rfl⟩
          have hcp : p ≤ c := by omega
          have hcq : c < q := by omega
          have hcz : ((p : Int) + (q : Int)) / 2 = (c : Int) := by omega
          obtain ⟨j, hj⟩ : ∃ j, j = mid + m - 1 - c := ⟨_, rfl⟩
          have hjz : (mid : Int) + (m : Int) - 1 - (c : Int) = (j : Int) := by omega
          have hjb : j < b := by omega
          have HJ : Hid (j = mid + m - 1 - c) := hj
          clear hc hj
          go_wp2_with fail
          obtain ⟨x, hx⟩ : ∃ x, X[c - a]! = x := ⟨_, rfl⟩
          obtain ⟨y, hy⟩ : ∃ y, Y[mid - 1 - c]! = y := ⟨_, rfl⟩
          have hS := S1.out
          have hlz := HL.out.2.2.2
          have gx : (A ++ (X ++ (Y ++ Z))).toArray[c]! = x := by
            rw [← hx]
            exact get_in A X (Y ++ Z) c (c - a) (by rw [HL.out.1]; omega) (by have := HL.out.2.1; omega)
          have gy : (A ++ (X ++ (Y ++ Z))).toArray[j]! = y := by
            rw [← hy, HJ.out]
            have := get_in (A ++ X) Y Z (mid + m - 1 - c) (mid - 1 - c) (by rw [List.length_append]; have := HL.out.1; have := HL.out.2.1; omega) (by have := HL.out.2.2.1; omega)
            rw [List.append_assoc] at this
            exact this
          obtain ⟨D, HD⟩ : ∃ D, Hid ((A ++ (X ++ (Y ++ Z))).toArray = D) := ⟨_, rfl⟩
          rw [HD.out] at hS hlz gx gy
          have ly := fun n' os' => hS.ld R hlz P j (by omega) n' os'
          have lx := fun n' os' => hS.ld R hlz P c (by omega) n' os'
          rw [gy] at ly
          rw [gx] at lx
          have hcg := fun n' os' => hS.cmp HC.out (by omega) y x n' os'
          have S2 : Aside (∀ n' os', SWK enc k w0 blk off D (grow (wr.drewN n') os')) := fun n' os' => hS.grown n' os'
          have rj1 : IntKind.i64.wrap ((mid : Int) + (m : Int) - 1 - (c : Int)) = (j : Int) := by rw [hjz, IntKind.wrap_i64]; omega
          have rj2 : IntKind.i64.wrap (j : Int) = (j : Int) := by rw [IntKind.wrap_i64]; omega
          have ba : (j : Int) < (sz : Int) := by omega
          have ba2 : (c : Int) < (sz : Int) := by omega
          clear hS hlz gx gy S1
          have HX : Hid (X[c - a]! = x ∧ Y[mid - 1 - c]! = y) := ⟨hx, hy⟩
          clear hx hy
          by_cases hlv : cf y x < 0
          · go_quiet_grown (first | (go_at_fn g; refine Calls.grown_of (hcg _ _)))
            have S3 := S2.out nq osq
            clear ly lx hcg S2
            generalize grow (wr.drewN nq) osq = w2 at S3 ⊢
            have S4 : Aside _ := S3
            clear S3
            go_wp2
            go_roundg (c - p)
            case measure => omega
            case rel => exact ⟨p, c, rfl, rfl, hlp, by omega, by omega, by omega, ⟨HP.out.1, fun _ => by rw [HX.out.1, HX.out.2]; exact hlv⟩, by rw [HD.out]; exact S4⟩
          · go_quiet_grown (first | (go_at_fn g; refine Calls.grown_of (hcg _ _)))
            have S3 := S2.out nq osq
            clear ly lx hcg S2
            generalize grow (wr.drewN nq) osq = w2 at S3 ⊢
            have S4 : Aside _ := S3
            clear S3
            go_wp2
            go_roundg (q - (c + 1))
            case measure => omega
            case rel => exact ⟨c + 1, q, by go_num, rfl, by omega, by omega, hqn, by omega, ⟨fun _ => by rw [Nat.add_sub_cancel, show mid - (c + 1) = mid - 1 - c by omega, HX.out.1, HX.out.2]; exact hlv, HP.out.2⟩, by rw [HD.out]; exact S4⟩
        · have hpq2 : p = q := by omega
          subst hpq2
          obtain ⟨X1, X2, Y1, Y2, HX, HXY, HS⟩ : ∃ X1 X2 Y1 Y2 : List α, Hid (X1.length = p - a ∧ X2.length = m - p ∧ Y1.length = mid - p ∧ Y2.length = b + p - mid - m) ∧ Hid (X = X1 ++ X2 ∧ Y = Y1 ++ Y2) ∧ Hid ((∀ x ∈ X1, ∀ y ∈ Y2, cf x y ≤ 0) ∧ (∀ y ∈ Y1, ∀ x ∈ X2, cf y x < 0)) := by
            obtain ⟨l1, l2, l3, l4⟩ := HL.out
            exact ⟨X.take (p - a), X.drop (p - a), Y.take (mid - p), Y.drop (mid - p), ⟨by rw [List.length_take]; omega, by rw [List.length_drop]; omega, by rw [List.length_take]; omega, by rw [List.length_drop]; omega⟩, ⟨by rw [List.take_append_drop], by rw [List.take_append_drop]⟩, sym_cross ho hX hY a m mid b p lo hi l2 l3 b1 hlp hqn b3 b4 b5 HH.out.1 HH.out.2 HP.out.1 HP.out.2⟩
          have S2 : Aside (SWK enc k w0 blk off (A ++ (X1 ++ (X2 ++ (Y1 ++ (Y2 ++ Z))))).toArray wr) := by
            have := S1.out
            rw [HXY.out.1, HXY.out.2] at this
            simp only [List.append_assoc] at this
            exact this
          have HLEN : Hid (A.length + X1.length + X2.length + Y1.length + Y2.length + Z.length = sz) := by
            have l4 := HL.out.2.2.2
            show _ = _
            rw [hs, HXY.out.1, HXY.out.2] at l4
            simp only [List.size_toArray, List.length_append] at l4
            omega
          clear S1 HP
          obtain ⟨e, he⟩ : ∃ e, e = mid + m - p := ⟨_, rfl⟩
          have hez : (mid : Int) + (m : Int) - (p : Int) = (e : Int) := by omega
          have hem : m ≤ e := by omega
          have heb : e ≤ b := by omega
          have HE : Hid (e = mid + m - p) := he
          clear he
          go_upto_region 39 with fail
          clear hez
          go_cut [185] (fun s185 wx => s185 = .bool (decide (p < m ∧ m < e)) ∧ wx = wr)
          case first =>
            as_aux_lemma =>
              by_cases c1 : p < m
              · have c1z : (p : Int) < (m : Int) := by omega
                by_cases c2 : m < e
                · have c2z : (m : Int) < (e : Int) := by omega
                  go_wp2
                  go_meet
                  case rel => exact ⟨by simp [c1, c2], rfl⟩
                · have c2z : ¬ (m : Int) < (e : Int) := by omega
                  go_wp2
                  go_meet
                  case rel => exact ⟨by simp [c2], rfl⟩
              · have c1z : ¬ (p : Int) < (m : Int) := by omega
                go_wp2
                go_meet
                case rel => exact ⟨by simp [c1], rfl⟩
          case rest =>
            as_aux_lemma =>
              obtain ⟨rfl, rfl⟩ := hcut
              go_upto_if 185 with fail
              go_cut [] (fun wx => Aside (SWK enc k w0 blk off (A ++ (X1 ++ (Y1 ++ (X2 ++ (Y2 ++ Z))))).toArray wx))
              case first =>
                as_aux_lemma =>
                  by_cases cc : p < m ∧ m < e
                  · have hc : Calls P 142 #[.slice (some ⟨blk, off, none⟩) sz cap, .int .i64 p, .int .i64 m, .int .i64 e, .func (.func g) #[] cb] wc fun e w' => e = .returned (.tuple #[]) ∧ SWK enc k w0 blk off (A ++ (X1 ++ (Y1 ++ (X2 ++ (Y2 ++ Z))))).toArray w' := by
                      obtain ⟨x1, x2, y1, y2⟩ := HX.out
                      have hl := HLEN.out
                      have l1 := HL.out.1
                      have l2 := HE.out
                      have := HR.out p m e (A ++ X1) X2 Y1 (Y2 ++ Z) wc (by simp only [List.length_append]; omega) (by simpa using S2.out) (by rw [List.length_append]; omega) (by rw [List.length_append]; omega) (by rw [List.length_append]; omega) (by omega) (by omega)
                      simpa using this
                    have HCC : Hid _ := hc
                    clear hc S2
                    have hd : decide (p < m ∧ m < e) = true := decide_eq_true cc
                    rw [hd]
                    go_wp2_with fail
                    refine Calls.mono HCC.out ?_
                    rintro e' w1 ⟨rfl, S3⟩
                    have S4 : Aside (SWK enc k w0 blk off (A ++ (X1 ++ (Y1 ++ (X2 ++ (Y2 ++ Z))))).toArray w1) := S3
                    clear S3
                    go_wp2
                    go_meet
                    case rel => exact S4
                  · have hd : decide (p < m ∧ m < e) = false := decide_eq_false cc
                    rw [hd]
                    have S4 : Aside (SWK enc k w0 blk off (A ++ (X1 ++ (Y1 ++ (X2 ++ (Y2 ++ Z))))).toArray wc) := by
                      obtain ⟨x1, x2, y1, y2⟩ := HX.out
                      have l2 := HE.out
                      have hS := S2.out
                      by_cases c1 : p < m
                      · have : Y1 = [] := List.eq_nil_of_length_eq_zero (by omega)
                        rw [this] at hS ⊢
                        exact hS
                      · have : X2 = [] := List.eq_nil_of_length_eq_zero (by omega)
                        rw [this] at hS ⊢
                        exact hS
                    clear S2
                    go_wp2
                    go_meet
                    case rel => exact S4
              case rest =>
                as_aux_lemma =>
                  clear S2
                  have S3 : Aside (SWK enc k w0 blk off (A ++ (X1 ++ (Y1 ++ (X2 ++ (Y2 ++ Z))))).toArray wc) := hcut
                  clear hcut
                  go_upto_region 41 with fail
                  go_cut [199] (fun s199 wx => s199 = .bool (decide (a < p ∧ p < mid)) ∧ wx = wc)
                  case first =>
                    as_aux_lemma =>
                      by_cases c1 : a < p
                      · have c1z : (a : Int) < (p : Int) := by omega
                        by_cases c2 : p < mid
                        · have c2z : (p : Int) < (mid : Int) := by omega
                          go_wp2
                          go_meet
                          case rel => exact ⟨by simp [c1, c2], rfl⟩
                        · have c2z : ¬ (p : Int) < (mid : Int) := by omega
                          go_wp2
                          go_meet
                          case rel => exact ⟨by simp [c2], rfl⟩
                      · have c1z : ¬ (a : Int) < (p : Int) := by omega
                        go_wp2
                        go_meet
                        case rel => exact ⟨by simp [c1], rfl⟩
                  case rest =>
                    as_aux_lemma =>
                      obtain ⟨rfl, rfl⟩ := hcut
                      go_upto_if 199 with fail
                      go_cut [] (fun wx => ∃ T1 : List α, Hid (Stab cf (X1 ++ Y1) T1) ∧ Aside (SWK enc k w0 blk off (A ++ (T1 ++ (X2 ++ (Y2 ++ Z)))).toArray wx))
                      case first =>
                        as_aux_lemma =>
                          by_cases cc : a < p ∧ p < mid
                          · have hc : Calls P 129 #[.slice (some ⟨blk, off, none⟩) sz cap, .int .i64 a, .int .i64 p, .int .i64 mid, .func (.func g) #[] cb] wc fun e w' => e = .returned (.tuple #[]) ∧ ∃ T, Stab cf (X1 ++ Y1) T ∧ SWK enc k w0 blk off (A ++ (T ++ (X2 ++ (Y2 ++ Z)))).toArray w' := by
                              obtain ⟨x1, x2, y1, y2⟩ := HX.out
                              have hl := HLEN.out
                              have l1 := HL.out.1
                              have l2 := HE.out
                              have uX := List.pairwise_append.1 (show Up cf (X1 ++ X2) by rw [← HXY.out.1]; exact hX)
                              have uY := List.pairwise_append.1 (show Up cf (Y1 ++ Y2) by rw [← HXY.out.2]; exact hY)
                              exact HI.out X1 Y1 (by omega) (by omega) uX.1 uY.1 (by have := HL.out.2.1; have := HL.out.2.2.1; omega) A (X2 ++ (Y2 ++ Z)) a p mid wc (by simp only [List.length_append]; omega) l1 (by omega) (by omega) S3.out
                            have HCC : Hid _ := hc
                            clear hc S3
                            have hd : decide (a < p ∧ p < mid) = true := decide_eq_true cc
                            rw [hd]
                            go_wp2_with fail
                            refine Calls.mono HCC.out ?_
                            rintro e' w1 ⟨rfl, T1, hst, S4⟩
                            have S5 : Aside (SWK enc k w0 blk off (A ++ (T1 ++ (X2 ++ (Y2 ++ Z)))).toArray w1) := S4
                            have HST : Hid _ := hst
                            clear S4 hst
                            go_wp2
                            go_meet
                            case rel => exact ⟨T1, HST, S5⟩
                          · have hd : decide (a < p ∧ p < mid) = false := decide_eq_false cc
                            rw [hd]
                            have S4 : Aside (SWK enc k w0 blk off (A ++ ((X1 ++ Y1) ++ (X2 ++ (Y2 ++ Z)))).toArray wc) := by
                              have := S3.out
                              rw [List.append_assoc]
                              exact this
                            have HST : Hid (Stab cf (X1 ++ Y1) (X1 ++ Y1)) := by
                              obtain ⟨x1, x2, y1, y2⟩ := HX.out
                              have uX := List.pairwise_append.1 (show Up cf (X1 ++ X2) by rw [← HXY.out.1]; exact hX)
                              have uY := List.pairwise_append.1 (show Up cf (Y1 ++ Y2) by rw [← HXY.out.2]; exact hY)
                              refine stab_refl ?_
                              by_cases c1 : a < p
                              · have : Y1 = [] := List.eq_nil_of_length_eq_zero (by omega)
                                rw [this, List.append_nil]; exact uX.1
                              · have : X1 = [] := List.eq_nil_of_length_eq_zero (by omega)
                                rw [this, List.nil_append]; exact uY.1
                            clear S3
                            go_wp2
                            go_meet
                            case rel => exact ⟨_, HST, S4⟩
                      case rest =>
                        as_aux_lemma =>
                          clear S3
                          obtain ⟨T1, HST, S3⟩ := hcut
                          have HT1 : Hid (T1.length = mid - a) := by
                            show _ = _
                            have := HST.out.perm.length_eq
                            rw [this, List.length_append]
                            obtain ⟨x1, x2, y1, y2⟩ := HX.out
                            omega
                          go_upto_region 43 with fail
                          go_cut [213] (fun s213 wx => s213 = .bool (decide (mid < e ∧ e < b)) ∧ wx = wc)
                          case first =>
                            as_aux_lemma =>
                              by_cases c1 : mid < e
                              · have c1z : (mid : Int) < (e : Int) := by omega
                                by_cases c2 : e < b
                                · have c2z : (e : Int) < (b : Int) := by omega
                                  go_wp2
                                  go_meet
                                  case rel => exact ⟨by simp [c1, c2], rfl⟩
                                · have c2z : ¬ (e : Int) < (b : Int) := by omega
                                  go_wp2
                                  go_meet
                                  case rel => exact ⟨by simp [c2], rfl⟩
                              · have c1z : ¬ (mid : Int) < (e : Int) := by omega
                                go_wp2
                                go_meet
                                case rel => exact ⟨by simp [c1], rfl⟩
                          case rest =>
                            as_aux_lemma =>
                              obtain ⟨rfl, rfl⟩ := hcut
                              go_upto_if 213 with fail
                              have hfin : ∀ (T2 : List α) (w1 : World), Stab cf (X2 ++ Y2) T2 → SWK enc k w0 blk off (A ++ (T1 ++ (T2 ++ Z))).toArray w1 → ∃ T, Stab cf (X ++ Y) T ∧ SWK enc k w0 blk off (A ++ (T ++ Z)).toArray w1 := by
                                intro T2 w1 h2 hS
                                refine ⟨T1 ++ T2, ?_, by rw [List.append_assoc]; exact hS⟩
                                rw [HXY.out.1, HXY.out.2]
                                exact stab_cross ho (by rw [← HXY.out.1]; exact hX) (by rw [← HXY.out.2]; exact hY) HS.out.1 HS.out.2 HST.out h2
                              have HFIN : Hid _ := hfin
                              clear hfin
                              by_cases cc : mid < e ∧ e < b
                              · have hc : Calls P 129 #[.slice (some ⟨blk, off, none⟩) sz cap, .int .i64 mid, .int .i64 e, .int .i64 b, .func (.func g) #[] cb] wc fun e w' => e = .returned (.tuple #[]) ∧ ∃ T, Stab cf (X2 ++ Y2) T ∧ SWK enc k w0 blk off ((A ++ T1) ++ (T ++ Z)).toArray w' := by
                                  obtain ⟨x1, x2, y1, y2⟩ := HX.out
                                  have hl := HLEN.out
                                  have l1 := HL.out.1
                                  have l2 := HE.out
                                  have lt := HT1.out
                                  have uX := List.pairwise_append.1 (show Up cf (X1 ++ X2) by rw [← HXY.out.1]; exact hX)
                                  have uY := List.pairwise_append.1 (show Up cf (Y1 ++ Y2) by rw [← HXY.out.2]; exact hY)
                                  exact HI.out X2 Y2 (by omega) (by omega) uX.2.1 uY.2.1 (by have := HL.out.2.1; have := HL.out.2.2.1; omega) (A ++ T1) Z mid e b wc (by simp only [List.length_append]; omega) (by rw [List.length_append]; omega) (by omega) (by omega) (by rw [List.append_assoc]; exact S3.out)
                                have HCC : Hid _ := hc
                                clear hc S3
                                have hd : decide (mid < e ∧ e < b) = true := decide_eq_true cc
                                rw [hd]
                                go_wp2_with fail
                                refine Calls.mono HCC.out ?_
                                rintro e' w1 ⟨rfl, T2, hst, S4⟩
                                have HZ : Hid _ := HFIN.out T2 w1 hst (by rw [List.append_assoc] at S4; exact S4)
                                clear S4 hst
                                go_wp2
                                go_end0
                                exact ⟨rfl, HZ.out⟩
                              · have hd : decide (mid < e ∧ e < b) = false := decide_eq_false cc
                                rw [hd]
                                have HZ : Hid _ := HFIN.out (X2 ++ Y2) wc (by
                                  obtain ⟨x1, x2, y1, y2⟩ := HX.out
                                  have l2 := HE.out
                                  have uX := List.pairwise_append.1 (show Up cf (X1 ++ X2) by rw [← HXY.out.1]; exact hX)
                                  have uY := List.pairwise_append.1 (show Up cf (Y1 ++ Y2) by rw [← HXY.out.2]; exact hY)
                                  refine stab_refl ?_
                                  by_cases c1 : mid < e
                                  · have : Y2 = [] := List.eq_nil_of_length_eq_zero (by omega)
                                    rw [this, List.append_nil]; exact uX.2.1
                                  · have : X2 = [] := List.eq_nil_of_length_eq_zero (by omega)
                                    rw [this, List.nil_append]; exact uY.2.1) (by rw [List.append_assoc]; exact S3.out)
                                clear S3
                                go_wp2
                                go_end0
                                exact ⟨rfl, HZ.out⟩
/-- slices.symMergeCmpFunc merges two sorted pieces, stably. -/
theorem symMerge_gen (k : Nat) (L : LaysS P k) (enc : α → List Value) (cf : α → α → Int) (ho : Ord3 cf) (g : Nat) (cb : Array Value) (blk off cap sz : Nat) (d0 : Array α) (w0 : World)
    (R : RowK enc k w0 blk off d0) (hs : d0.size = sz) (eg : ∀ args w, (callFunc g args).run P w = .ok (.enter g args) w) (hcmp : CmpLays P g cb enc k cf blk off sz w0) (hsz : sz < 4611686018427387904) :
    ∀ (N : Nat) (X Y : List α), 0 < X.length → 0 < Y.length → Up cf X → Up cf Y → X.length + Y.length ≤ N → MergesAt P k enc cf g cb blk off cap sz w0 X Y := by
  intro N
  induction N with
  | zero => intro X Y h1; intros; omega
  | succ N ih =>
    intro X Y h1 h2 hX hY hN
    by_cases c1 : X.length = 1
    · obtain ⟨x, rfl⟩ := List.length_eq_one_iff.1 c1
      intro A Z a m b w hd ha hm hb S
      have := symMerge_one k L enc cf ho g cb blk off cap a m b sz d0 A Y Z x w0 w R hs eg hcmp (by simpa using hd) (by simpa using S) ha (by simp at hm; omega) hb hY hsz
      simpa using this
    · by_cases c2 : Y.length = 1
      · obtain ⟨y, rfl⟩ := List.length_eq_one_iff.1 c2
        intro A Z a m b w hd ha hm hb S
        exact symMerge_last k L enc cf ho g cb blk off cap a m b sz d0 A X Z y w0 w R hs eg hcmp (by simpa using hd) (by simpa using S) ha hm (by simp at hb; omega) (by omega) hX hsz
      · exact symMerge_step k L enc cf ho g cb blk off cap sz d0 X Y w0 R hs eg hcmp hsz (by omega) (by omega) hX hY fun X' Y' a1 a2 a3 a4 a5 => ih X' Y' a1 a2 a3 a4 (by omega)
end Go.Proofs.YtecacjddggljgaaDoor

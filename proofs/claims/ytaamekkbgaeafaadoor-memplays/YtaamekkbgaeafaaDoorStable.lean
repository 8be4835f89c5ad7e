/-
  What slices.SortStableFunc answers at entries, however many: a contract over this translation.
-/
import Derived.Test.YtaamekkbgaeafaaDoorSym3
import Derived.Test.YtaamekkbgaeafaaDoorShelf
namespace Go.Proofs.YtaamekkbgaeafaaDoor
open Go.RowKit Go.Sort Go.Shelf
set_option linter.unusedSectionVars false
variable [Inhabited E]
theorem encE_len (x : E) : (encE x).length = 4 := rfl
theorem encE_one (x : E) : ∀ v ∈ encE x, v.oneCell' = true := by
  intro v hv
  simp [encE] at hv
  rcases hv with rfl | rfl | rfl | rfl <;> rfl
theorem enters41 : ∀ args w, (callFunc 41 args).run Tryd.prog w = .ok (.enter 41 args) w := enters_of Tryd.func41 (by kernel_rfl) rfl
theorem ins_at (blk off cap n a b : Nat) (d0 : Array E) (w0 w : World) (A B Z : List E) (R : RowK encE 4 w0 blk off d0) (hs : d0.size = n) (hd : (A ++ (B ++ Z)).length = n) (S : SWK encE 4 w0 blk off (A ++ (B ++ Z)).toArray w)
    (ha : A.length = a) (hb : a + B.length = b) (hsz : n < 4611686018427387904) :
    Calls Tryd.prog 65 #[.slice (some ⟨blk, off, none⟩) n cap, .int .i64 a, .int .i64 b, .func (.func 41) #[] #[]] w fun e w' => e = .returned (.tuple #[]) ∧ ∃ T, Stab cmpE B T ∧ SWK encE 4 w0 blk off (A ++ (T ++ Z)).toArray w' := by
  obtain ⟨T, hT, he⟩ := insertionSort_list cmpE_ord A B Z a b ha.symm (by omega)
  have hsize : (A ++ (B ++ Z)).toArray.size = n := by simpa using hd
  have h1 := AnyQ.insertionSortCmpFunc Tryd.insL 4 Tryd.isAgg29 Tryd.sizeOf29 encE encE_len encE_one cmpE 41 #[] blk off cap a b (A ++ (B ++ Z)).toArray w enters41 (byKeyLays blk off _ w) (S.holds R.hblk R.hH (by omega)) (S.lt R.hblk) (by omega) (by rw [hsize, ← hd]; simp only [List.length_append]; omega) (by omega)
  rw [hsize] at h1
  refine h1.mono ?_
  rintro e w' ⟨rfl, m, os, rfl⟩
  refine ⟨rfl, T, hT, ?_⟩
  rw [he]
  exact S.on R.hblk m _ os (by simp [hT.perm.length_eq])
theorem merge_at (blk off cap n : Nat) (d0 : Array E) (w0 : World) (R : RowK encE 4 w0 blk off d0) (hs : d0.size = n) (hsz : n < 4611686018427387904) (X Y : List E) (hX : 0 < X.length) (hY : 0 < Y.length) (uX : Up cmpE X) (uY : Up cmpE Y) : MergesAt Tryd.prog 4 encE cmpE 41 #[] blk off cap n w0 X Y :=
  symMerge_gen 4 Tryd.laysS encE cmpE cmpE_ord 41 #[] blk off cap n d0 w0 R hs enters41 (byKeyLays blk off n w0) hsz _ X Y hX hY uX uY (Nat.le_refl _)
set_option maxRecDepth 100000 in
set_option maxHeartbeats 4000000 in
theorem stable_any (blk off cap n : Nat) (es : List E) (w : World) (hl : es.length = n) (hH : HoldsK encE 4 w blk off es.toArray) (hblk : blk < w.heap.size) (hbig : n ≤ 1000000000000) :
    Calls Tryd.prog 53 #[.slice (some ⟨blk, off, none⟩) n cap, .int .i64 n, .func (.func 41) #[] #[]] w fun e w' =>
      e = .returned (.tuple #[]) ∧ ∃ S, Stab cmpE es S ∧ SWK encE 4 w blk off S.toArray w' := by
  have R : RowK encE 4 w blk off es.toArray := ⟨encE_len, encE_one, hH, hblk⟩
  have hs : es.toArray.size = n := by simpa using hl
  have HI : Aside _ := fun a b W A B Z hd S ha hb => ins_at blk off cap n a b es.toArray w W A B Z R hs hd S ha hb (by omega)
  have HM : Aside _ := fun X Y hX hY uX uY => merge_at blk off cap n es.toArray w R hs (by omega) X Y hX hY uX uY
  have S0 : Aside (SWK encE 4 w blk off ([] ++ es).toArray w) := SWK.start hH
  have HL : Hid (es.length = n) := hl
  clear hH hl R hs
  go_enter Tryd.func53, Tryd.ntmps53
  go_wp2
  go_loopg [7, 8] n (fun kx s7 s8 wr => ∃ (i : Nat) (l L r : List E), s7 = .int .i64 i ∧ s8 = .int .i64 (i + 20 : Nat) ∧ i ≤ n ∧ n - i ≤ kx ∧ Hid (es = l ++ r ∧ Done cmpE 20 l L ∧ L.length = i ∧ i + r.length = n) ∧ Aside (SWK encE 4 w blk off (L ++ r).toArray wr))
  case atStart => exact ⟨0, [], [], es, rfl, rfl, by omega, by omega, ⟨rfl, .none, rfl, by rw [HL.out]; omega⟩, S0⟩
  case round =>
    clear S0
    obtain ⟨i, l, L, r, rfl, rfl, hin, hkx, HP, S1⟩ := hrel
    by_cases hlt : i + 20 ≤ n
    · have hltz : (i : Int) + 20 ≤ (n : Int) := by omega
      have hc : Calls Tryd.prog 65 #[.slice (some ⟨blk, off, none⟩) n cap, .int .i64 i, .int .i64 ((i : Int) + 20), .func (.func 41) #[] #[]] wr fun e w' => e = .returned (.tuple #[]) ∧ ∃ T, Stab cmpE (r.take 20) T ∧ SWK encE 4 w blk off (L ++ (T ++ r.drop 20)).toArray w' := by
        obtain ⟨p1, p2, p3, p4⟩ := HP.out
        exact HI.out i (i + 20) wr L (r.take 20) (r.drop 20) (by rw [List.take_append_drop, List.length_append]; omega) (by rw [List.take_append_drop]; exact S1.out) p3 (by rw [List.length_take]; omega)
      have HC : Hid _ := hc
      clear hc S1
      go_wp2_with fail
      refine Calls.mono HC.out ?_
      rintro e w1 ⟨rfl, T, hT, S2⟩
      have S3 : Aside (SWK encE 4 w blk off ((L ++ T) ++ r.drop 20).toArray w1) := by rw [List.append_assoc]; exact S2
      have HT : Hid _ := hT
      clear S2 hT
      go_wp2
      go_roundg (n - (i + 20))
      case measure => omega
      case rel =>
        obtain ⟨p1, p2, p3, p4⟩ := HP.out
        have l1 : (r.take 20).length = 20 := by rw [List.length_take]; omega
        refine ⟨i + 20, l ++ r.take 20, L ++ T, r.drop 20, by go_num, by go_num, by omega, by omega, ⟨by rw [List.append_assoc, List.take_append_drop]; exact p1, .snoc p2 l1 HT.out, by rw [List.length_append, HT.out.perm.length_eq, l1, p3], by rw [List.length_drop]; omega⟩, S3⟩
    · have hltz : ¬ (i : Int) + 20 ≤ (n : Int) := by omega
      have hc : Calls Tryd.prog 65 #[.slice (some ⟨blk, off, none⟩) n cap, .int .i64 i, .int .i64 n, .func (.func 41) #[] #[]] wr fun e w' => e = .returned (.tuple #[]) ∧ ∃ T, Stab cmpE r T ∧ SWK encE 4 w blk off (L ++ (T ++ [])).toArray w' := by
        obtain ⟨p1, p2, p3, p4⟩ := HP.out
        exact HI.out i n wr L r [] (by rw [List.append_nil, List.length_append]; omega) (by rw [List.append_nil]; exact S1.out) p3 p4
      have HC : Hid _ := hc
      clear hc S1
      go_wp2_with fail
      refine Calls.mono HC.out ?_
      rintro e w1 ⟨rfl, T, hT, S2⟩
      have S3 : Aside (SWK encE 4 w blk off (L ++ T).toArray w1) := by rw [List.append_nil] at S2; exact S2
      have HB : Hid (Blk cmpE 20 es (L ++ T) ∧ (L ++ T).length = n) := by
        obtain ⟨p1, p2, p3, p4⟩ := HP.out
        exact ⟨by rw [p1]; exact done_blk p2 (.last (by omega) hT), by rw [List.length_append, hT.perm.length_eq]; omega⟩
      clear S2 hT HP
      go_wp2
      go_loopg [6, 7, 8, 9] (n + 1) (fun kx s6 s7 s8 s9 wr => ∃ (bs : Nat) (cur : List E), s6 = .int .i64 bs ∧ 0 < bs ∧ bs ≤ 2 * n + 20 ∧ n - bs ≤ kx ∧ Hid (Blk cmpE bs es cur ∧ cur.length = n) ∧ Aside (SWK encE 4 w blk off cur.toArray wr))
      case atStart => exact ⟨20, L ++ T, rfl, by omega, by omega, by omega, HB, S3⟩
      case round =>
        clear S3 HB
        obtain ⟨bs, cur, rfl, hbs0, hbs1, hkx2, HB, S4⟩ := hrel
        by_cases hbn : bs < n
        · have hbnz : (bs : Int) < (n : Int) := by omega
          go_wp2
          go_loopg [7, 8] n (fun kx s7 s8 wr => ∃ (i : Nat) (l L r R : List E), s7 = .int .i64 i ∧ s8 = .int .i64 (i + 2 * bs : Nat) ∧ i ≤ n ∧ n - i ≤ kx ∧ Hid (es = l ++ r ∧ Done cmpE (2 * bs) l L ∧ Blk cmpE bs r R ∧ L.length = i ∧ i + R.length = n) ∧ Aside (SWK encE 4 w blk off (L ++ R).toArray wr))
          case atStart => exact ⟨0, [], [], es, cur, rfl, by go_num, by omega, by omega, ⟨rfl, .none, HB.out.1, rfl, by rw [HB.out.2]; omega⟩, S4⟩
          case round =>
            clear S4 HB
            obtain ⟨i, l, L, r, R, rfl, rfl, hin2, hkx3, HP, S5⟩ := hrel
            by_cases hlt2 : i + 2 * bs ≤ n
            · have hltz2 : (i : Int) + 2 * (bs : Int) ≤ (n : Int) := by omega
              obtain ⟨r1, r2, r3, S1, S2, R3, HQ⟩ : ∃ r1 r2 r3 S1 S2 R3 : List E, Hid (r = r1 ++ r2 ++ r3 ∧ R = S1 ++ (S2 ++ R3) ∧ S1.length = bs ∧ S2.length = bs ∧ r1.length = bs ∧ r2.length = bs ∧ Stab cmpE r1 S1 ∧ Stab cmpE r2 S2 ∧ Blk cmpE bs r3 R3) := by
                obtain ⟨p1, p2, p3, p4, p5⟩ := HP.out
                exact blk_two hbs0 p3 (by omega)
              have hc : Calls Tryd.prog 66 #[.slice (some ⟨blk, off, none⟩) n cap, .int .i64 i, .int .i64 ((i : Int) + (bs : Int)), .int .i64 ((i : Int) + 2 * (bs : Int)), .func (.func 41) #[] #[]] wr fun e w' => e = .returned (.tuple #[]) ∧ ∃ T, Stab cmpE (S1 ++ S2) T ∧ SWK encE 4 w blk off (L ++ (T ++ R3)).toArray w' := by
                obtain ⟨p1, p2, p3, p4, p5⟩ := HP.out
                obtain ⟨q1, q2, q3, q4, q5, q6, q7, q8, q9⟩ := HQ.out
                have hS := S5.out
                rw [q2] at hS p5
                simp only [List.length_append] at p5
                exact HM.out S1 S2 (by omega) (by omega) q7.srt q8.srt L R3 i (i + bs) (i + 2 * bs) wr (by simp only [List.length_append]; omega) p4 (by omega) (by omega) hS
              have HC : Hid _ := hc
              clear hc S5
              go_wp2_with fail
              refine Calls.mono HC.out ?_
              rintro e w2 ⟨rfl, T2, hT2, S6⟩
              have S7 : Aside (SWK encE 4 w blk off ((L ++ T2) ++ R3).toArray w2) := by rw [List.append_assoc]; exact S6
              have HT2 : Hid _ := hT2
              clear S6 hT2
              go_wp2
              go_roundg (n - (i + 2 * bs))
              case measure => omega
              case rel =>
                obtain ⟨p1, p2, p3, p4, p5⟩ := HP.out
                obtain ⟨q1, q2, q3, q4, q5, q6, q7, q8, q9⟩ := HQ.out
                have hst := Stab.trans_app q7 q8 HT2.out
                have e1 := HT2.out.perm.length_eq
                rw [q2] at p5
                simp only [List.length_append] at p5 e1
                refine ⟨i + 2 * bs, l ++ (r1 ++ r2), L ++ T2, r3, R3, by go_num, by go_num, by omega, by omega, ⟨by rw [p1, q1]; simp only [List.append_assoc], .snoc p2 (by rw [List.length_append]; omega) hst, q9, by rw [List.length_append]; omega, by omega⟩, S7⟩
            · have hltz2 : ¬ (i : Int) + 2 * (bs : Int) ≤ (n : Int) := by omega
              by_cases hmn : i + bs < n
              · have hmnz : (i : Int) + (bs : Int) < (n : Int) := by omega
                obtain ⟨r1, r2, S1, R2, HQ⟩ : ∃ r1 r2 S1 R2 : List E, Hid (r = r1 ++ r2 ∧ R = S1 ++ R2 ∧ S1.length = bs ∧ r1.length = bs ∧ Stab cmpE r1 S1 ∧ Blk cmpE bs r2 R2) := by
                  obtain ⟨p1, p2, p3, p4, p5⟩ := HP.out
                  exact blk_cut p3 (by omega)
                have hc : Calls Tryd.prog 66 #[.slice (some ⟨blk, off, none⟩) n cap, .int .i64 i, .int .i64 ((i : Int) + (bs : Int)), .int .i64 n, .func (.func 41) #[] #[]] wr fun e w' => e = .returned (.tuple #[]) ∧ ∃ T, Stab cmpE (S1 ++ R2) T ∧ SWK encE 4 w blk off (L ++ (T ++ [])).toArray w' := by
                  obtain ⟨p1, p2, p3, p4, p5⟩ := HP.out
                  obtain ⟨q1, q2, q3, q4, q5, q6⟩ := HQ.out
                  have hS := S5.out
                  rw [q2] at hS p5
                  simp only [List.length_append] at p5
                  have q7 := blk_one q6 (by omega)
                  exact HM.out S1 R2 (by omega) (by omega) q5.srt q7.srt L [] i (i + bs) n wr (by simp only [List.length_append, List.length_nil]; omega) p4 (by omega) (by omega) (by simpa using hS)
                have HC : Hid _ := hc
                clear hc S5
                go_wp2_with fail
                refine Calls.mono HC.out ?_
                rintro e w2 ⟨rfl, T2, hT2, S6⟩
                have S7 : Aside (SWK encE 4 w blk off (L ++ T2).toArray w2) := by rw [List.append_nil] at S6; exact S6
                have HT2 : Hid _ := hT2
                clear S6 hT2
                go_wp2
                go_roundg (n - 2 * bs)
                case measure => omega
                case rel =>
                  obtain ⟨p1, p2, p3, p4, p5⟩ := HP.out
                  obtain ⟨q1, q2, q3, q4, q5, q6⟩ := HQ.out
                  rw [q2] at p5
                  have e1 := HT2.out.perm.length_eq
                  simp only [List.length_append] at p5 e1
                  have q7 := blk_one q6 (by omega)
                  have hst := Stab.trans_app q5 q7 HT2.out
                  have e2 := q7.perm.length_eq
                  refine ⟨2 * bs, L ++ T2, by first | go_num | (congr 1; omega), by omega, by omega, by omega, ⟨?_, by rw [List.length_append]; omega⟩, S7⟩
                  rw [p1]
                  exact done_blk p2 (.last (by rw [q1, List.length_append]; omega) (by rw [q1]; exact hst))
              · have hmnz : ¬ (i : Int) + (bs : Int) < (n : Int) := by omega
                go_wp2
                go_roundg (n - 2 * bs)
                case measure => omega
                case rel =>
                  obtain ⟨p1, p2, p3, p4, p5⟩ := HP.out
                  have q7 := blk_one p3 (by omega)
                  have e2 := q7.perm.length_eq
                  refine ⟨2 * bs, L ++ R, by first | go_num | (congr 1; omega), by omega, by omega, by omega, ⟨?_, by rw [List.length_append]; omega⟩, S5⟩
                  rw [p1]
                  exact done_blk p2 (.last (by omega) q7)
        · have hbnz : ¬ (bs : Int) < (n : Int) := by omega
          go_wp2
          go_end0
          exact ⟨rfl, cur, blk_one HB.out.1 (by rw [HB.out.2]; omega), S4.out⟩
theorem sortStable_any (blk off cap n : Nat) (es : List E) (w : World) (hl : es.length = n) (hH : HoldsK encE 4 w blk off es.toArray) (hblk : blk < w.heap.size) (hbig : n ≤ 1000000000000) :
    Calls Tryd.prog 40 #[.slice (some ⟨blk, off, none⟩) n cap, .func (.func 41) #[] #[]] w fun e w' =>
      e = .returned (.tuple #[]) ∧ ∃ S, Stab cmpE es S ∧ SWK encE 4 w blk off S.toArray w' := by
  have HC : Hid _ := stable_any blk off cap n es w hl hH hblk hbig
  clear hH
  go_enter Tryd.func40, Tryd.ntmps40
  go_wp2_with fail
  refine Calls.mono HC.out ?_
  rintro e w1 ⟨rfl, S, hS, hW⟩
  have HZ : Hid _ := And.intro hS hW
  clear hS hW
  go_wp2
  go_end0
  exact ⟨rfl, S, HZ.out.1, HZ.out.2⟩
end Go.Proofs.YtaamekkbgaeafaaDoor

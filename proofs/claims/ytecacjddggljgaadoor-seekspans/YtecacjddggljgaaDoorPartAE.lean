/-
  The laying of the insertion sort by a comparison at this translation (function 47). What slices.SortStableFunc answers at entries, however many: a contract over this translation. Rows of entries, and what slices.Clone answers at them: a contract over this translation.
-/
import Derived.Test.YtecacjddggljgaaDoorProg
import Derived.Shelf.SlSortCmp.InsertionK
import Derived.Test.YtecacjddggljgaaDoorPartAD
namespace Go.Proofs
open Go.Shelf
def Tryd.insL_ren : Go.Shelf.Ren := ⟨fun | 20 => 128 | n => n, fun | 24 => 54 | 22 => 22 | 3 => 3 | 25 => 133 | 4 => 4 | 0 => 0 | n => n, fun | n => n⟩
theorem Tryd.insL : Go.Proofs.SlLaysF0.n20 Tryd.prog Tryd.insL_ren := {
  mixed := by kernel_rfl
  f20 := ⟨Tryd.f128.name, by decide, Tryd.func128.trans (congrArg some (by kernel_rfl))⟩
  t0 := Tryd.underlying0
  a0 := Tryd.isAgg0
  z0 := Tryd.sizeOf0
  v0 := Tryd.zeroValue0
  t3 := Tryd.underlying3
  a3 := Tryd.isAgg3
  z3 := Tryd.sizeOf3
  v3 := Tryd.zeroValue3
  t4 := Tryd.underlying4
  a4 := Tryd.isAgg4
  z4 := Tryd.sizeOf4
  v4 := Tryd.zeroValue4
  t22 := Tryd.underlying22
  a22 := Tryd.isAgg22
  z22 := Tryd.sizeOf22
  v22 := Tryd.zeroValue22
  t25 := Tryd.underlying133
  a25 := Tryd.isAgg133
  z25 := Tryd.sizeOf133
  v25 := Tryd.zeroValue133 }
end Go.Proofs
namespace Go.Proofs.YtecacjddggljgaaDoor
open Go.RowKit Go.Sort Go.Shelf
set_option linter.unusedSectionVars false
variable [Inhabited E]
theorem encE_len (x : E) : (encE x).length = 4 := rfl
theorem encE_one (x : E) : ∀ v ∈ encE x, v.oneCell' = true := by
  intro v hv
  simp [encE] at hv
  rcases hv with rfl | rfl | rfl | rfl <;> rfl
theorem enters84 : ∀ args w, (callFunc 84 args).run Tryd.prog w = .ok (.enter 84 args) w := enters_of Tryd.func84 (by kernel_rfl) rfl
theorem ins_at (blk off cap n a b : Nat) (d0 : Array E) (w0 w : World) (A B Z : List E) (R : RowK encE 4 w0 blk off d0) (hs : d0.size = n) (hd : (A ++ (B ++ Z)).length = n) (S : SWK encE 4 w0 blk off (A ++ (B ++ Z)).toArray w)
    (ha : A.length = a) (hb : a + B.length = b) (hsz : n < 4611686018427387904) :
    Calls Tryd.prog 128 #[.slice (some ⟨blk, off, none⟩) n cap, .int .i64 a, .int .i64 b, .func (.func 84) #[] #[]] w fun e w' => e = .returned (.tuple #[]) ∧ ∃ T, Stab cmpE B T ∧ SWK encE 4 w0 blk off (A ++ (T ++ Z)).toArray w' := by
  obtain ⟨T, hT, he⟩ := insertionSort_list cmpE_ord A B Z a b ha.symm (by omega)
  have hsize : (A ++ (B ++ Z)).toArray.size = n := by simpa using hd
  have h1 := AnyQ.insertionSortCmpFunc Tryd.insL 4 Tryd.isAgg54 Tryd.sizeOf54 encE encE_len encE_one cmpE 84 #[] blk off cap a b (A ++ (B ++ Z)).toArray w enters84 (byKeyLays blk off _ w) (S.holds R.hblk R.hH (by omega)) (S.lt R.hblk) (by omega) (by rw [hsize, ← hd]; simp only [List.length_append]; omega) (by omega)
  rw [hsize] at h1
  refine h1.mono ?_
  rintro e w' ⟨rfl, m, os, rfl⟩
  refine ⟨rfl, T, hT, ?_⟩
  rw [he]
  exact S.on R.hblk m _ os (by simp [hT.perm.length_eq])
theorem merge_at (blk off cap n : Nat) (d0 : Array E) (w0 : World) (R : RowK encE 4 w0 blk off d0) (hs : d0.size = n) (hsz : n < 4611686018427387904) (X Y : List E) (hX : 0 < X.length) (hY : 0 < Y.length) (uX : Up cmpE X) (uY : Up cmpE Y) : MergesAt Tryd.prog 4 encE cmpE 84 #[] blk off cap n w0 X Y :=
  symMerge_gen 4 Tryd.laysS encE cmpE cmpE_ord 84 #[] blk off cap n d0 w0 R hs enters84 (byKeyLays blk off n w0) hsz _ X Y hX hY uX uY (Nat.le_refl _)
set_option maxRecDepth 100000 in
set_option maxHeartbeats 4000000 in
theorem stable_any (blk off cap n : Nat) (es : List E) (w : World) (hl : es.length = n) (hH : HoldsK encE 4 w blk off es.toArray) (hblk : blk < w.heap.size) (hbig : n ≤ 1000000000000) :
    Calls Tryd.prog 113 #[.slice (some ⟨blk, off, none⟩) n cap, .int .i64 n, .func (.func 84) #[] #[]] w fun e w' =>
      e = .returned (.tuple #[]) ∧ ∃ S, Stab cmpE es S ∧ SWK encE 4 w blk off S.toArray w' := by
  have R : RowK encE 4 w blk off es.toArray := ⟨encE_len, encE_one, hH, hblk⟩
  have hs : es.toArray.size = n := by simpa using hl
  have HI : Aside _ := fun a b W A B Z hd S ha hb => ins_at blk off cap n a b es.toArray w W A B Z R hs hd S ha hb (by omega)
  have HM : Aside _ := fun X Y hX hY uX uY => merge_at blk off cap n es.toArray w R hs (by omega) X Y hX hY uX uY
  have S0 : Aside (SWK encE 4 w blk off ([] ++ es).toArray w) := SWK.start hH
  have HL : Hid (es.length = n) := hl
  clear hH hl R hs
  go_enter Tryd.func113, Tryd.ntmps113
  go_wp2
  go_loopg [7, 8] n (fun kx s7 s8 wr => ∃ (i : Nat) (l L r : List E), s7 = .int .i64 i ∧ s8 = .int .i64 (i + 20 : Nat) ∧ i ≤ n ∧ n - i ≤ kx ∧ Hid (es = l ++ r ∧ Done cmpE 20 l L ∧ L.length = i ∧ i + r.length = n) ∧ Aside (SWK encE 4 w blk off (L ++ r).toArray wr))
  case atStart => exact ⟨0, [], [], es, rfl, rfl, by omega, by omega, ⟨rfl, .none, rfl, by rw [HL.out]; omega⟩, S0⟩
  case round =>
    clear S0
    obtain ⟨i, l, L, r, rfl, rfl, hin, hkx, HP, S1⟩ := hrel
    by_cases hlt : i + 20 ≤ n
    · have hltz : (i : Int) + 20 ≤ (n : Int) := by omega
      have hc : Calls Tryd.prog 128 #[.slice (some ⟨blk, off, none⟩) n cap, .int .i64 i, .int .i64 ((i : Int) + 20), .func (.func 84) #[] #[]] wr fun e w' => e = .returned (.tuple #[]) ∧ ∃ T, Stab cmpE (r.take 20) T ∧ SWK encE 4 w blk off (L ++ (T ++ r.drop 20)).toArray w' := by
        obtain ⟨p1, p2, p3, p4⟩ := HP.out
        exact HI.out i (i + 20) wr L (r.take 20) (r.drop 20) (by rw [List.take_append_drop, List.length_append]; omega) (by rw [List.take_append_drop]; exact S1.out) p3 (by rw [List.length_take]; omega)
      have HC : Hid _ := hc
      clear hc S1
      go_wp2_with fail
      refine Calls.mono HC.out ?_
      rintro e w1 ⟨rfl, T, hT, S2⟩
      have S3 : Aside (SWK encE 4 w blk off ((L ++ T) ++ r.drop 20).toArray w1) := by rw [List.append_assoc]; exact S2
      have HT : Hid _ := hT
      clear S2 hT
      go_wp2
      go_roundg (n - (i + 20))
      case measure => omega
      case rel =>
        obtain ⟨p1, p2, p3, p4⟩ := HP.out
        have l1 : (r.take 20).length = 20 := by rw [List.length_take]; omega
        refine ⟨i + 20, l ++ r.take 20, L ++ T, r.drop 20, by go_num, by go_num, by omega, by omega, ⟨by rw [List.append_assoc, List.take_append_drop]; exact p1, .snoc p2 l1 HT.out, by rw [List.length_append, HT.out.perm.length_eq, l1, p3], by rw [List.length_drop]; omega⟩, S3⟩
    · have hltz : ¬ (i : Int) + 20 ≤ (n : Int) := by omega
      have hc : Calls Tryd.prog 128 #[.slice (some ⟨blk, off, none⟩) n cap, .int .i64 i, .int .i64 n, .func (.func 84) #[] #[]] wr fun e w' => e = .returned (.tuple #[]) ∧ ∃ T, Stab cmpE r T ∧ SWK encE 4 w blk off (L ++ (T ++ [])).toArray w' := by
        obtain ⟨p1, p2, p3, p4⟩ := HP.out
        exact HI.out i n wr L r [] (by rw [List.append_nil, List.length_append]; omega) (by rw [List.append_nil]; exact S1.out) p3 p4
      have HC : Hid _ := hc
      clear hc S1
      go_wp2_with fail
      refine Calls.mono HC.out ?_
      rintro e w1 ⟨rfl, T, hT, S2⟩
      have S3 : Aside (SWK encE 4 w blk off (L ++ T).toArray w1) := by rw [List.append_nil] at S2; exact S2
      have HB : Hid (Blk cmpE 20 es (L ++ T) ∧ (L ++ T).length = n) := by
        obtain ⟨p1, p2, p3, p4⟩ := HP.out
        exact ⟨by rw [p1]; exact done_blk p2 (.last (by omega) hT), by rw [List.length_append, hT.perm.length_eq]; omega⟩
      clear S2 hT HP
      go_wp2
      go_loopg [6, 7, 8, 9] (n + 1) (fun kx s6 s7 s8 s9 wr => ∃ (bs : Nat) (cur : List E), s6 = .int .i64 bs ∧ 0 < bs ∧ bs ≤ 2 * n + 20 ∧ n - bs ≤ kx ∧ Hid (Blk cmpE bs es cur ∧ cur.length = n) ∧ Aside (SWK encE 4 w blk off cur.toArray wr))
      case atStart => exact ⟨20, L ++ T, rfl, by omega, by omega, by omega, HB, S3⟩
      case round =>
        clear S3 HB
        obtain ⟨bs, cur, rfl, hbs0, hbs1, hkx2, HB, S4⟩ := hrel
        by_cases hbn : bs < n
        · have hbnz : (bs : Int) < (n : Int) := by omega
          go_wp2
          go_loopg [7, 8] n (fun kx s7 s8 wr => ∃ (i : Nat) (l L r R : List E), s7 = .int .i64 i ∧ s8 = .int .i64 (i + 2 * bs : Nat) ∧ i ≤ n ∧ n - i ≤ kx ∧ Hid (es = l ++ r ∧ Done cmpE (2 * bs) l L ∧ Blk cmpE bs r R ∧ L.length = i ∧ i + R.length = n) ∧ Aside (SWK encE 4 w blk off (L ++ R).toArray wr))
          case atStart => exact ⟨0, [], [], es, cur, rfl, by go_num, by omega, by omega, ⟨rfl, .none, HB.out.1, rfl, by rw [HB.out.2]; omega⟩, S4⟩
          case round =>
            clear S4 HB
            obtain ⟨i, l, L, r, R, rfl, rfl, hin2, hkx3, HP, S5⟩ := hrel
            by_cases hlt2 : i + 2 * bs ≤ n
            · have hltz2 : (i : Int) + 2 * (bs : Int) ≤ (n : Int) := by omega
              obtain ⟨r1, r2, r3, S1, S2, R3, HQ⟩ : ∃ r1 r2 r3 S1 S2 R3 : List E, Hid (r = r1 ++ r2 ++ r3 ∧ R = S1 ++ (S2 ++ R3) ∧ S1.length = bs ∧ S2.length = bs ∧ r1.length = bs ∧ r2.length = bs ∧ Stab cmpE r1 S1 ∧ Stab cmpE r2 S2 ∧ Blk cmpE bs r3 R3) := by
                obtain ⟨p1, p2, p3, p4, p5⟩ := HP.out
                exact blk_two hbs0 p3 (by omega)
              have hc : Calls Tryd.prog 129 #[.slice (some ⟨blk, off, none⟩) n cap, .int .i64 i, .int .i64 ((i : Int) + (bs : Int)), .int .i64 ((i : Int) + 2 * (bs : Int)), .func (.func 84) #[] #[]] wr fun e w' => e = .returned (.tuple #[]) ∧ ∃ T, Stab cmpE (S1 ++ S2) T ∧ SWK encE 4 w blk off (L ++ (T ++ R3)).toArray w' := by
                obtain ⟨p1, p2, p3, p4, p5⟩ := HP.out
                obtain ⟨q1, q2, q3, q4, q5, q6, q7, q8, q9⟩ := HQ.out
                have hS := S5.out
                rw [q2] at hS p5
                simp only [List.length_append] at p5
                exact HM.out S1 S2 (by omega) (by omega) q7.srt q8.srt L R3 i (i + bs) (i + 2 * bs) wr (by simp only [List.length_append]; omega) p4 (by omega) (by omega) hS
              have HC : Hid _ := hc
              clear hc S5
              go_wp2_with fail
              refine Calls.mono HC.out ?_
              rintro e w2 ⟨rfl, T2, hT2, S6⟩
              have S7 : Aside (SWK encE 4 w blk off ((L ++ T2) ++ R3).toArray w2) := by rw [List.append_assoc]; exact S6
              have HT2 : Hid _ := hT2
              clear S6 hT2
              go_wp2
              go_roundg (n - (i + 2 * bs))
              case measure => omega
              case rel =>
                obtain ⟨p1, p2, p3, p4, p5⟩ := HP.out
                obtain ⟨q1, q2, q3, q4, q5, q6, q7, q8, q9⟩ := HQ.out
                have hst := Stab.trans_app q7 q8 HT2.out
                have e1 := HT2.out.perm.length_eq
                rw [q2] at p5
                simp only [List.length_append] at p5 e1
                refine ⟨i + 2 * bs, l ++ (r1 ++ r2), L ++ T2, r3, R3, by go_num, by go_num, by omega, by omega, ⟨by rw [p1, q1]; simp only [List.append_assoc], .snoc p2 (by rw [List.length_append]; omega) hst, q9, by rw [List.length_append]; omega, by omega⟩, S7⟩
            · have hltz2 : ¬ (i : Int) + 2 * (bs : Int) ≤ (n : Int) := by omega
              by_cases hmn : i + bs < n
              · have hmnz : (i : Int) + (bs : Int) < (n : Int) := by omega
                obtain ⟨r1, r2, S1, R2, HQ⟩ : ∃ r1 r2 S1 R2 : List E, Hid (r = r1 ++ r2 ∧ R = S1 ++ R2 ∧ S1.length = bs ∧ r1.length = bs ∧ Stab cmpE r1 S1 ∧ Blk cmpE bs r2 R2) := by
                  obtain ⟨p1, p2, p3, p4, p5⟩ := HP.out
                  exact blk_cut p3 (by omega)
                have hc : Calls Tryd.prog 129 #[.slice (some ⟨blk, off, none⟩) n cap, .int .i64 i, .int .i64 ((i : Int) + (bs : Int)), .int .i64 n, .func (.func 84) #[] #[]] wr fun e w' => e = .returned (.tuple #[]) ∧ ∃ T, Stab cmpE (S1 ++ R2) T ∧ SWK encE 4 w blk off (L ++ (T ++ [])).toArray w' := by
                  obtain ⟨p1, p2, p3, p4, p5⟩ := HP.out
                  obtain ⟨q1, q2, q3, q4, q5, q6⟩ := HQ.out
                  have hS := S5.out
                  rw [q2] at hS p5
                  simp only [List.length_append] at p5
                  have q7 := blk_one q6 (by omega)
                  exact HM.out S1 R2 (by omega) (by omega) q5.srt q7.srt L [] i (i + bs) n wr (by simp only [List.length_append, List.length_nil]; omega) p4 (by omega) (by omega) (by simpa using hS)
                have HC : Hid _ := hc
                clear hc S5
                go_wp2_with fail
                refine Calls.mono HC.out ?_
                rintro e w2 ⟨rfl, T2, hT2, S6⟩
                have S7 : Aside (SWK encE 4 w blk off (L ++ T2).toArray w2) := by rw [List.append_nil] at S6; exact S6
                have HT2 : Hid _ := hT2
                clear S6 hT2
                go_wp2
                go_roundg (n - 2 * bs)
                case measure => omega
                case rel =>
                  obtain ⟨p1, p2, p3, p4, p5⟩ := HP.out
                  obtain ⟨q1, q2, q3, q4, q5, q6⟩ := HQ.out
                  rw [q2] at p5
                  have e1 := HT2.out.perm.length_eq
                  simp only [List.length_append] at p5 e1
                  have q7 := blk_one q6 (by omega)
                  have hst := Stab.trans_app q5 q7 HT2.out
                  have e2 := q7.perm.length_eq
                  refine ⟨2 * bs, L ++ T2, by first | go_num | (congr 1; omega), by omega, by omega, by omega, ⟨?_, by rw [List.length_append]; omega⟩, S7⟩
                  rw [p1]
                  exact done_blk p2 (.last (by rw [q1, List.length_append]; omega) (by rw [q1]; exact hst))
              · have hmnz : ¬ (i : Int) + (bs : Int) < (n : Int) := by omega
                go_wp2
                go_roundg (n - 2 * bs)
                case measure => omega
                case rel =>
                  obtain ⟨p1, p2, p3, p4, p5⟩ := HP.out
                  have q7 := blk_one p3 (by omega)
                  have e2 := q7.perm.length_eq
                  refine ⟨2 * bs, L ++ R, by first | go_num | (congr 1; omega), by omega, by omega, by omega, ⟨?_, by rw [List.length_append]; omega⟩, S5⟩
                  rw [p1]
                  exact done_blk p2 (.last (by omega) q7)
        · have hbnz : ¬ (bs : Int) < (n : Int) := by omega
          go_wp2
          go_end0
          exact ⟨rfl, cur, blk_one HB.out.1 (by rw [HB.out.2]; omega), S4.out⟩
theorem sortStable_any (blk off cap n : Nat) (es : List E) (w : World) (hl : es.length = n) (hH : HoldsK encE 4 w blk off es.toArray) (hblk : blk < w.heap.size) (hbig : n ≤ 1000000000000) :
    Calls Tryd.prog 83 #[.slice (some ⟨blk, off, none⟩) n cap, .func (.func 84) #[] #[]] w fun e w' =>
      e = .returned (.tuple #[]) ∧ ∃ S, Stab cmpE es S ∧ SWK encE 4 w blk off S.toArray w' := by
  have HC : Hid _ := stable_any blk off cap n es w hl hH hblk hbig
  clear hH
  go_enter Tryd.func83, Tryd.ntmps83
  go_wp2_with fail
  refine Calls.mono HC.out ?_
  rintro e w1 ⟨rfl, S, hS, hW⟩
  have HZ : Hid _ := And.intro hS hW
  clear hS hW
  go_wp2
  go_end0
  exact ⟨rfl, S, HZ.out.1, HZ.out.2⟩
end Go.Proofs.YtecacjddggljgaaDoor
namespace Go.Proofs.YtecacjddggljgaaDoor
open Go.RowKit Go.Sort Go.Shelf
set_option linter.unusedSectionVars false
variable [Inhabited E]
/-- The cells of entries. -/
def flatE (es : List E) : List Value := es.flatMap encE
theorem flatE_nil : flatE [] = [] := rfl
theorem flatE_cons (e : E) (es : List E) : flatE (e :: es) = encE e ++ flatE es := by simp [flatE]
theorem flatE_append (a b : List E) : flatE (a ++ b) = flatE a ++ flatE b := by simp [flatE]
theorem flatE_len : ∀ es : List E, (flatE es).length = es.length * 4
  | [] => rfl
  | e :: es => by rw [flatE_cons, List.length_append, flatE_len es, encE_len, List.length_cons]; omega
theorem flatE_one (es : List E) : ∀ u ∈ flatE es, u.oneCell' = true := by
  intro u hu
  simp only [flatE, List.mem_flatMap] at hu
  obtain ⟨x, _, hx⟩ := hu
  exact encE_one x u hx
theorem flatE_at : ∀ (es : List E) (i c : Nat), i < es.length → c < 4 → (flatE es)[i * 4 + c]? = (encE es[i]!)[c]?
  | [], i, c, h, _ => by simp at h
  | e :: es, 0, c, _, hc => by
    rw [flatE_cons, Nat.zero_mul, Nat.zero_add, List.getElem?_append_left (by rw [encE_len]; exact hc)]; rfl
  | e :: es, i + 1, c, h, hc => by
    rw [flatE_cons, List.getElem?_append_right (by rw [encE_len]; omega), encE_len, show (i + 1) * 4 + c - 4 = i * 4 + c by omega, flatE_at es i c (by simpa using h) hc]
    simp
theorem flatE_get (es : List E) (t : Nat) (h : t < es.length * 4) : (flatE es)[t]? = (encE es[t / 4]!)[t % 4]? := by
  have := flatE_at es (t / 4) (t % 4) (by omega) (by omega)
  rwa [show t / 4 * 4 + t % 4 = t by omega] at this
theorem encE_get! (e : E) (c : Nat) (h : c < 4) : (encE e)[c]? = some (encE e)[c]! := by
  rw [getElem!_pos _ c (by rw [encE_len]; exact h), List.getElem?_eq_getElem]
theorem info23 : (Tryd.prog.info? 54).map (fun i => (i.zero, i.size, i.bytes)) = some (some (.agg #[.string ByteArray.empty, .string ByteArray.empty, .bool false, .int .i64 0]), 4, 48) := by kernel_rfl
/-- The cells of entries lie at b, off. -/
def Ents (w : World) (b off : Nat) (es : List E) : Prop := ∀ j u, (flatE es)[j]? = some u → w.cell? ⟨b, off + j, none⟩ = some u
theorem Ents.below {w w' : World} {b off B : Nat} {es : List E} (h : Ents w b off es) (hb : Below B w w') (hB : w.heap.size ≤ B) : Ents w' b off es := fun j u hu => by
  have h1 := h j u hu
  rw [← h1]
  exact World.cell?_of_block (hb.block b (by have := World.block_lt_of_cell? w _ h1; exact Nat.lt_of_lt_of_le this hB))
theorem Ents.lt {w : World} {b off : Nat} {es : List E} (h : Ents w b off es) (hp : 0 < es.length) : b < w.heap.size := by
  have h0 := flatE_get es 0 (by omega)
  rw [Nat.zero_mod, encE_get! _ 0 (by decide)] at h0
  exact World.block_lt_of_cell? w _ (h 0 _ h0)
theorem get!_toList (d : Array E) (i : Nat) : d.toList[i]! = d[i]! := by
  by_cases h : i < d.size
  · rw [getElem!_pos d i h, getElem!_pos d.toList i (by simpa using h)]; simp
  · rw [getElem!_neg d i h, getElem!_neg d.toList i (by simpa using h)]
theorem own_ents {w : World} {base g n cap : Nat} {es : List E} (h : w.ownsRow base 54 4 (.slice (some ⟨g, 0, none⟩) n cap) n (flatE es)) : Ents w g 0 es := fun j u hu => by
  have := h.cells (g := g) rfl j u hu
  rw [Addr.add_lit] at this
  exact this
theorem own_holds {w : World} {base g n cap : Nat} {d : Array E} (h : w.ownsRow base 54 4 (.slice (some ⟨g, 0, none⟩) n cap) n (flatE d.toList)) : HoldsK encE 4 w g 0 d := by
  have hE := own_ents h
  intro t ht
  rw [size_flatK] at ht
  refine ⟨?_, ?_⟩
  · rw [get_flatK _ _ _ t ht]
    refine hE t _ ?_
    rw [flatE_get _ t (by simpa using ht), encE_get! _ _ (by omega), get!_toList]
    rfl
  · obtain ⟨_, hh⟩ := h
    rcases hh with ⟨h0, _⟩ | ⟨g', cap', cur, hv, _, hg, _⟩
    · cases h0
    · cases hv
      exact frozen_of_row w g _ _ 54 hg
theorem holds_ents {w : World} {g off : Nat} {d : Array E} (h : HoldsK encE 4 w g off d) : Ents w g off d.toList := by
  intro j u hu
  have hj : j < d.size * 4 := by
    have := (List.getElem?_eq_some_iff.1 hu).1
    rw [flatE_len] at this; simpa using this
  have := (h j (by rw [size_flatK]; exact hj)).1
  rw [get_flatK _ _ _ j hj] at this
  rw [flatE_get _ j (by simpa using hj), encE_get! _ _ (by omega), get!_toList] at hu
  cases hu
  exact this
theorem bel_sort (B : Nat) (w : World) (g off n : Nat) (d : Array E) (os : Array Obj) (hg : B ≤ g) (hB : B ≤ w.heap.size) : Below B w (sortWorldK encE 4 w g off n d os) := by
  refine ⟨rfl, rfl, rfl, size_sortWorldK_c encE 4 w g off n d os, fun k hk => ?_⟩
  show ((putRowK encE 4 (Sort.ahead w n) g off d).heap ++ os)[k]? = _
  rw [Array.getElem?_append_left (by rw [size_putRowK]; show k < w.heap.size; omega)]
  show (w.heap.modify g _)[k]? = _
  rw [Array.getElem?_modify, if_neg (by omega)]
set_option maxRecDepth 100000 in
set_option maxHeartbeats 1000000 in
theorem clone_any (b off n c : Nat) (es : List E) (w : World) (hl : es.length = n) (hE : Ents w b off es) (hbig : n ≤ 1000000000000) (hn : 0 < n) :
    Calls Tryd.prog 82 #[.slice (some ⟨b, off, none⟩) n c] w fun e w' => ∃ g cap, e = .returned (.slice (some ⟨g, 0, none⟩) n cap) ∧ w.heap.size ≤ g ∧ w'.ownsRow w.heap.size 54 4 (.slice (some ⟨g, 0, none⟩) n cap) n (flatE es) ∧ Below w.heap.size w w' := by
  obtain ⟨i0, hi, hz0, hz1, hz2⟩ := info_parts info23
  have HE : Hid (Ents (w.alloc (.cells #[] 54)) b off es) := hE.below (bel_alloc w _) (Nat.le_refl _)
  clear hE
  have HO : Hid ((w.alloc (.cells #[] 54)).ownsRow w.heap.size 54 4 (.slice (some ⟨w.heap.size, 0, none⟩) 0 0) 0 []) := World.ownsRow_made w #[] 0 (Nat.le_refl _) (by decide) rfl
  have HL : Hid ((flatE es).length = n * 4) := by show _ = _; rw [flatE_len, hl]
  have HB : Hid (w.heap.size ≤ (w.alloc (.cells #[] 54)).heap.size) := by show _ ≤ _; simp
  have q35 : ∀ (w : World) (a : Option Addr) (n c n' c' : Nat), (binOp .eql 22 (.slice a n c) (.slice none n' c')).run Tryd.prog w = .ok (.bool a.isNone) w := fun w a n c n' c' => Lib.run_eql_slice_nil w _ _ a n c n' c' Tryd.underlying22
  go_enter Tryd.func82, Tryd.ntmps82
  go_wp2_with (at_builtin; refine wpList_append_own _ rfl (.tmp 5) (.tmp 6) 22 rfl w.heap.size 54 i0 _ 4 48 Tryd.underlying22 hi hz0 hz1 hz2 rfl (by decide) _ 0 [] rfl HO.out ⟨b, off, none⟩ n c (flatE es) rfl HL.out (fun j u hu => by rw [Addr.add_lit]; exact HE.out j u hu) (flatE_one es) (by unfold maxLen; omega) (by omega) HB.out ?_)
  intro v' w1 hown hgr hv
  have hbel : Below w.heap.size w w1 := (bel_alloc w _).trans ((Below.refl _ _).grown hgr HB.out (fun k hk => by cases hk; exact Nat.le_refl _))
  obtain ⟨g, cap, rfl, hg⟩ : ∃ g cap, v' = .slice (some ⟨g, 0, none⟩) n cap ∧ w.heap.size ≤ g := by
    rcases hown.2 with ⟨_, h0⟩ | ⟨g, cap, cur, hv, hg, _⟩
    · omega
    · exact ⟨g, cap, hv, hg⟩
  clear hv hgr
  have HF : Hid _ := hown
  clear hown
  go_wp2
  go_ret
  exact ⟨g, cap, rfl, hg, HF.out, hbel⟩
end Go.Proofs.YtecacjddggljgaaDoor

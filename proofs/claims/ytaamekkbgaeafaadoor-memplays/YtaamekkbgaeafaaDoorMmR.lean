/-
  A mem all of whose blocks are new: Put and Clear of it; what must be in any case (law10.shown).
-/
import Derived.Test.YtaamekkbgaeafaaDoorMmP
namespace Go.Proofs.YtaamekkbgaeafaaDoor
open Go.RowKit
set_option linter.unusedSectionVars false
set_option linter.unusedVariables false
variable [Inhabited E] [DecidableEq E]
abbrev Fr (B : Nat) : Nat → Prop := fun k => B ≤ k
theorem fr_grow {B : Nat} {w : World} (hB : B ≤ w.heap.size) (k : Nat) (h : grow (Fr B) w k) : Fr B k := by
  rcases h with h | h
  · exact h
  · exact Nat.le_trans hB h
theorem put_fr (B g : Nat) (A : Mm) (e : E) (w : World) (h : MemAt (Fr B) w g A) (hK : KK w) (hB : B ≤ w.heap.size) (hB1 : 1 < B) (hk : e.key.size ≤ 9223372036854775807) (hv : e.value.size ≤ 9223372036854775807) :
    Calls Tryd.prog 13 #[.pointer (some ⟨g, 0, none⟩), .agg #[.string e.key, .string e.value, .bool e.del, .int .i64 e.seq]] w fun r w' => r = .returned (.int .i64 (putN A e)) ∧ MemAt (Fr B) w' g (putA A e) ∧ Below B w w' ∧ KK w' := by
  refine (put_mem (Fr B) g A e.key e.value e.del e.seq w h hK (by simp only [Fr]; omega) hk hv).mono ?_
  rintro r w' ⟨rfl, h1, h2⟩
  exact ⟨rfl, h1.mono (fun k _ hk => fr_grow hB k hk), h2.below (fun k hk => hk) hB, hK.only h2 (by simp only [Fr]; omega)⟩
theorem clear_fr (B g : Nat) (A : Mm) (w : World) (h : MemAt (Fr B) w g A) (hK : KK w) (hB : B ≤ w.heap.size) (hB1 : 1 < B) :
    Calls Tryd.prog 15 #[.pointer (some ⟨g, 0, none⟩)] w fun r w' => r = .returned (.tuple #[]) ∧ MemAt (Fr B) w' g ⟨[], A.last, noneB⟩ ∧ Below B w w' ∧ KK w' := by
  refine (clear_any (Fr B) g A w h hK (by simp only [Fr]; omega)).mono ?_
  rintro r w' ⟨rfl, h1, h2⟩
  exact ⟨rfl, h1, h2.below (fun k hk => hk) hB, hK.only h2 (by simp only [Fr]; omega)⟩
theorem new_fr (B : Nat) (w : World) (hK : KK w) (hB : B ≤ w.heap.size) (hB1 : 1 < B) :
    Calls Tryd.prog 10 #[] w fun r w' => ∃ g, r = .returned (.pointer (some ⟨g, 0, none⟩)) ∧ MemAt (Fr B) w' g mm0 ∧ Below B w w' ∧ KK w' := by
  refine (new_mem w hK).mono ?_
  rintro r w' ⟨g, rfl, h1, h2⟩
  exact ⟨g, rfl, h1.mono (fun k _ hk => Nat.le_trans hB hk), h2.mono hB, hK.below h2 hK.2⟩
theorem putN_ok {A : Mm} {e : E} (h1 : rightB e = true) (h2 : A.last < e.seq) (h3 : A.es.length < 64) : putN A e = 0 := by
  unfold putN
  rw [if_neg (by rw [h1]; simp; omega), if_neg (by omega)]
theorem putA_ok {A : Mm} {e : E} (h : putN A e = 0) : putA A e = ⟨insS A.es e, e.seq, linkB A.ch e⟩ := by rw [putA, if_pos h]
def sa : E := ⟨⟨#[97]⟩, ⟨#[]⟩, false, 1⟩
def sb : E := ⟨⟨#[98]⟩, ⟨#[]⟩, false, 2⟩
def sc : E := ⟨⟨#[97]⟩, ⟨#[]⟩, false, 3⟩
def sd : E := ⟨⟨#[99]⟩, ⟨#[]⟩, false, 3⟩
theorem s1 : putA mm0 sa = ⟨[sa], 1, linkB noneB sa⟩ ∧ putN mm0 sa = 0 := by
  have h : putN mm0 sa = 0 := putN_ok (by decide) (by decide) (by decide)
  exact ⟨(putA_ok h).trans rfl, h⟩
theorem s2 : putA ⟨[sa], 1, linkB noneB sa⟩ sb = ⟨[sa, sb], 2, linkB (linkB noneB sa) sb⟩ ∧ putN ⟨[sa], 1, linkB noneB sa⟩ sb = 0 := by
  have h : putN ⟨[sa], 1, linkB noneB sa⟩ sb = 0 := putN_ok (by decide) (by decide) (by show 1 < 64; omega)
  refine ⟨(putA_ok h).trans ?_, h⟩
  have hi : insS [sa] sb = [sa, sb] := by rw [insS, if_pos (by decide)]; rfl
  show (⟨insS [sa] sb, sb.seq, _⟩ : Mm) = _
  rw [hi]; rfl
theorem s3 (ch : List UInt8) : putA ⟨[sa, sb], 2, ch⟩ sc = ⟨[sc, sb], 3, linkB ch sc⟩ ∧ putN ⟨[sa, sb], 2, ch⟩ sc = 0 := by
  have h : putN ⟨[sa, sb], 2, ch⟩ sc = 0 := putN_ok (by decide) (by show (2 : Int) < 3; omega) (by show 2 < 64; omega)
  refine ⟨(putA_ok h).trans ?_, h⟩
  have hi : insS [sa, sb] sc = [sc, sb] := by rw [insS, if_neg (by decide), if_pos (show sa.key = sc.key from rfl), if_pos (by decide)]
  show (⟨insS [sa, sb] sc, sc.seq, _⟩ : Mm) = _
  rw [hi]; rfl
theorem s4 (ch : List UInt8) : putA ⟨[sc, sb], 3, ch⟩ sd = ⟨[sc, sb], 3, ch⟩ ∧ putN ⟨[sc, sb], 3, ch⟩ sd = 1 := by
  have h : putN ⟨[sc, sb], 3, ch⟩ sd = 1 := by
    unfold putN
    rw [if_pos (.inr (by show (3 : Int) ≤ 3; omega))]
  exact ⟨by rw [putA, if_neg (by rw [h]; decide)], h⟩
set_option maxRecDepth 100000 in
set_option maxHeartbeats 2000000 in
theorem shown_any (w : World) (hK : KK w) : Calls Tryd.prog 9 #[] w fun e w' => e = .returned (.bool true) ∧ Below w.heap.size w w' ∧ KK w' := by
  have hk2 := hK.2
  obtain ⟨B, HB⟩ : ∃ B, Hid (w.heap.size = B) := ⟨_, rfl⟩
  rw [HB.out] at hk2
  rw [HB.out]
  go_enter Tryd.func9, Tryd.ntmps9
  go_wp2_with fail
  refine (new_fr B w hK (by rw [HB.out]; exact Nat.le_refl _) hk2).mono ?_
  rintro e w1 ⟨g, rfl, hM1, hb1, hk1⟩
  have hs1 : B ≤ w1.heap.size := Nat.le_trans (Nat.le_of_eq HB.out.symm) hb1.size
  go_wp2_with fail
  refine (put_fr B g mm0 sa w1 hM1 hk1 hs1 hk2 (by decide) (by decide)).mono ?_
  rw [s1.1, s1.2]
  rintro e w2 ⟨rfl, hM2, hb2, hk2x⟩
  have hb2x := hb1.trans hb2
  have hs2 := Nat.le_trans hs1 hb2.size
  clear hM1 hk1 hb1 hb2 hs1
  go_wp2_with fail
  refine (put_fr B g _ sb w2 hM2 hk2x hs2 hk2 (by decide) (by decide)).mono ?_
  rw [s2.1, s2.2]
  rintro e w3 ⟨rfl, hM3, hb3, hk3x⟩
  have hb3x := hb2x.trans hb3
  have hs3 := Nat.le_trans hs2 hb3.size
  clear hM2 hk2x hb2x hb3 hs2
  go_wp2_with fail
  refine (put_fr B g _ sc w3 hM3 hk3x hs3 hk2 (by decide) (by decide)).mono ?_
  rw [(s3 _).1, (s3 _).2]
  rintro e w4 ⟨rfl, hM4, hb4, hk4x⟩
  have hb4x := hb3x.trans hb4
  have hs4 := Nat.le_trans hs3 hb4.size
  clear hM3 hk3x hb3x hb4 hs3
  go_wp2_with fail
  refine (put_fr B g _ sd w4 hM4 hk4x hs4 hk2 (by decide) (by decide)).mono ?_
  rw [(s4 _).1, (s4 _).2]
  rintro e w5 ⟨rfl, hM5, hb5, hk5x⟩
  have hb5x := hb4x.trans hb5
  have hs5 := Nat.le_trans hs4 hb5.size
  clear hM4 hk4x hb4x hb5 hs4
  go_wp2_with fail
  refine (all_mem (Fr B) g _ w5 hM5).mono ?_
  rintro e w6 ⟨v6, rfl, how, hb6⟩
  have HM6 := hM5.grown hb6
  have hk6 := hk5x.below hb6 hk5x.2
  have hb6x := hb5x.trans (hb6.mono hs5)
  obtain ⟨ga, ca, rfl, -, -⟩ := how.form (show 0 < [sc, sb].length by decide)
  have hE := own_ents how
  obtain ⟨f0, f1, f2, f3⟩ := ents_four (k := sc.key) (v := sc.value) (d := sc.del) (q := sc.seq) hE 0 (by decide) rfl
  obtain ⟨g0, g1, g2, g3⟩ := ents_four (k := sb.key) (v := sb.value) (d := sb.del) (q := sb.seq) hE 1 (by decide) rfl
  have HL : Hid (Calls Tryd.prog 22 #[.pointer (some ⟨g, 0, none⟩)] w6 fun e w' => e = .returned (.int .i64 3) ∧ w' = w6) := last_any _ g _ w6 HM6
  have HN : Hid (Calls Tryd.prog 24 #[.pointer (some ⟨g, 0, none⟩)] w6 fun e w' => e = .returned (.int .i64 2) ∧ w' = w6) := len_any _ g _ w6 HM6
  simp only [Nat.zero_mul, Nat.zero_add, Nat.one_mul, sc, sb] at f3 g3
  clear hM5 hk5x hb5x hb6 how hE f0 f1 f2 g0 g1 g2 HM6 hs5
  go_wp2_with (first | (go_at_call 22; refine Calls.mono HL.out ?_; rintro e wx ⟨rfl, rfl⟩) | (go_at_call 24; refine Calls.mono HN.out ?_; rintro e wx ⟨rfl, rfl⟩))
  go_ret
  exact ⟨rfl, hb6x, hk6⟩
end Go.Proofs.YtaamekkbgaeafaaDoor

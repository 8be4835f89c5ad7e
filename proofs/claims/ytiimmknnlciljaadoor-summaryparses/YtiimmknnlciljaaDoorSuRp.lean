/-
  What Parse of the document answers: a contract over this translation.
-/
import Derived.Test.YtiimmknnlciljaaDoorSuRy
import Derived.Test.YtiimmknnlciljaaDoorSuPm
import Derived.Lib.LazyBuf
namespace Go.Proofs.YtiimmknnlciljaaDoor
open Go.RowKit Go.Sort Go.Shelf
set_option linter.unusedSectionVars false
variable [Inhabited E] [DecidableEq E]
theorem strB_from (q : ByteArray) (a : Nat) (h : a ≤ q.size) : strB (q.extract a q.size) = (strB q).drop a := by
  have h2 := extract_strB q a (q.size - a)
  rw [show a + (q.size - a) = q.size by omega] at h2
  rw [h2, strB_mk, List.take_of_length_le (by rw [List.length_drop, strB_length]; omega)]
theorem size_to (q : ByteArray) (a : Nat) : (q.extract a q.size).size ≤ q.size := by rw [ByteArray.size_extract]; omega
theorem num_step {R more : List UInt8} {v0 v k : Nat} {b : Bool} (h : getB R = (v, k, b)) (hR : R = putB v0 ++ more) (hv : v0 < 18446744073709551616) : v = v0 ∧ b = true ∧ R.drop k = more := by
  have h2 := getB_putB v0 hv more
  rw [← hR, h] at h2
  simp only [Prod.mk.injEq] at h2
  obtain ⟨rfl, rfl, rfl⟩ := h2
  exact ⟨rfl, rfl, by rw [hR, List.drop_left]⟩
theorem text_step {R more s0 t : List UInt8} {k : Nat} {b : Bool} (h : textOf R = (t, k, b)) (hR : R = textB s0 ++ more) (hv : s0.length < 18446744073709551616) : t = s0 ∧ b = true ∧ R.drop k = more := by
  have h2 := textOf_textB s0 more hv
  rw [← hR, h] at h2
  simp only [Prod.mk.injEq] at h2
  obtain ⟨rfl, rfl, rfl⟩ := h2
  exact ⟨rfl, rfl, by rw [hR, List.drop_left]⟩
theorem text_size {R t : List UInt8} {k : Nat} {b : Bool} (h : textOf R = (t, k, b)) : t.length ≤ R.length := by
  have := congrArg Prod.fst h
  simp only at this
  rw [← this]
  unfold textOf
  split
  · simp
  · simp; omega
theorem Box.sets {W : World} {g : Nat} {x : Tb} (h : Box W g x) (d : List UInt8) (hd : d.length = 32) : W.setCells g 2 (cellsOf d) = W.setRow g (encT (x.rt d hd)).toArray := by
  rw [Sm.setCells_row g 51 (cellsOf d) 2 (encT x) W h (by rw [cellsOf_length, hd, encT_len]; omega), encT_rt x d hd]
set_option maxRecDepth 100000 in
set_option maxHeartbeats 32000000 in
theorem refParse14_any (s : ByteArray) (w : World) (hs : s.size ≤ 5000) :
    Calls Tryd.prog 21 #[.string s] w fun e w' => ∃ v, e = .returned (.tuple #[v, .int .i64 (if parseOk (strB s) then 0 else 2)]) ∧ PV (parseOk (strB s)) w.heap.size w' v (rdL (strB s) false).1 ∧ Below w.heap.size w w' := by
  obtain ⟨bs, HBS⟩ : ∃ b, Hid (strB s = b) := ⟨_, rfl⟩
  rw [HBS.out]
  have HONE : Hid (parseOk bs = true → rightT (rdL bs false).1 ∧ sumB (rdL bs false).1 = bs) := fun h => parse_once h
  have HTWO : Hid (∀ D, rightT D → sumB D = bs → parseOk bs = true ∧ (rdL bs false).1 = D) := fun D h1 h2 => by rw [← h2]; exact parse_yes h1
  obtain ⟨ok, HOK⟩ : ∃ b, Hid (parseOk bs = b) := ⟨_, rfl⟩
  obtain ⟨L0, HL0⟩ : ∃ b, Hid ((rdL bs false).1 = b) := ⟨_, rfl⟩
  rw [HOK.out, HL0.out] at HONE HTWO ⊢
  obtain ⟨er, HER⟩ : ∃ er : Int, Hid ((if ok then (0 : Int) else 2) = er) := ⟨_, rfl⟩
  rw [HER.out]
  obtain ⟨⟨n, k0, ok0⟩, HA0⟩ : ∃ a, Hid (getB bs = a) := ⟨_, rfl⟩
  have P00 : Hid (ok = true → ok0 = true ∧ n = L0.length ∧ n ≤ 512 ∧ bs.drop k0 = L0.flatMap writtenB) := fun h => by
    obtain ⟨h1, h2⟩ := HONE.out h
    have h3 := num_step HA0.out h2.symm (by have := h1.1; omega)
    exact ⟨h3.2.1, h3.1, by rw [h3.1]; exact h1.1, h3.2.2⟩
  have C0 : Hid _ := refGet_any s w (by omega)
  rw [HBS.out, HA0.out] at C0
  have HSZ : Hid (s.size = bs.length) := by show _ = _; rw [← HBS.out, strB_length]
  go_enter Tryd.func21, Tryd.ntmps21
  go_wp2_with fail
  refine Calls.mono C0.out ?_
  rintro e w0 ⟨rfl, rfl⟩
  clear C0
  cases ok0 with
  | false =>
    have hok : ok = false := by
      cases hh : ok with
      | false => rfl
      | true => exact absurd (P00.out hh).1 (by decide)
    subst hok
    obtain rfl : er = 2 := HER.out.symm
    go_wp2
    go_ret2
    exact ⟨.slice none 0 0, rfl, ⟨fun h => (by cases h), fun _ => rfl⟩, Below.refl _ _⟩
  | true =>
    by_cases hn5 : 512 < n
    · have hn5z : (512 : Int) < (n : Int) := by omega
      have hok : ok = false := by
        cases hh : ok with
        | false => rfl
        | true => exact absurd (P00.out hh).2.2.1 (by omega)
      subst hok
      obtain rfl : er = 2 := HER.out.symm
      go_wp2
      go_ret2
      exact ⟨.slice none 0 0, rfl, ⟨fun h => (by cases h), fun _ => rfl⟩, Below.refl _ _⟩
    · have hn5z : ¬ (512 : Int) < (n : Int) := by omega
      have hk0 : k0 ≤ s.size := by rw [HSZ.out]; exact (getB_once _ _ _ HA0.out).2.2.1
      have hk0z : (k0 : Int) ≤ (s.size : Int) := by omega
      have hk0y : (0 : Int) ≤ (k0 : Int) := by omega
      go_upto_region 5 with fail
      obtain ⟨q0, HQ0⟩ : ∃ q, Hid (s.extract k0 s.size = q) := ⟨_, rfl⟩
      rw [HQ0.out]
      have HQS : Hid (q0.size ≤ 5000 ∧ strB q0 = bs.drop k0) := by
        rw [← HQ0.out, ← HBS.out]
        exact ⟨Nat.le_trans (size_to s k0) hs, strB_from s k0 hk0⟩
      have HN5 : Hid (n ≤ 512) := by show _ ≤ _; omega
      clear hk0 hk0z hk0y hn5 HQ0
      go_wp2
      go_loopw [7, 8, 9, 10, 11, 12, 13, 14, 15, 16, 17, 18, 19, 20, 21, 22] (fun q7 o x _ _ _ _ _ _ _ _ _ _ _ _ _ wr => ∃ (i : Nat) (done : List Tb) (q : ByteArray), q7 = .string q ∧ x = .int .i64 i ∧ i ≤ n ∧ done.length = i ∧ Hid (q.size ≤ 5000) ∧ Hid (ok = true → ∃ Ls, L0 = done ++ Ls ∧ strB q = Ls.flatMap writtenB) ∧ Hid (∀ x ∈ done, x.first.size ≤ 5000 ∧ x.last.size ≤ 5000) ∧ wr.ownsRow w0.heap.size 51 36 o done.length (flatT done) ∧ Below w0.heap.size w0 wr) (fun _ _ x _ _ _ _ _ _ _ _ _ _ _ _ _ _ => n - (intOf x).toNat)
      case atStart => exact ⟨0, [], q0, rfl, rfl, by omega, rfl, HQS.out.1, (fun h => ⟨L0, rfl, by rw [HQS.out.2]; exact (P00.out h).2.2.2⟩), (fun x hx => by cases hx), World.ownsRow_nil _ _ _ _, Below.refl _ _⟩
      case round =>
        obtain ⟨i, done, q, rfl, rfl, hin, hdl, HQZ, HP, HSD, hown, hbel⟩ := hrel
        by_cases hlt : i < n
        · have hltz : (i : Int) < (n : Int) := by omega
          have P0 : Hid (ok = true → ∃ x Ls, L0 = done ++ x :: Ls ∧ oneT x ∧ strB q = putB x.lv.toNat ++ (putB x.ct.toNat ++ (x.root ++ (textB (strB x.first) ++ (textB (strB x.last) ++ Ls.flatMap writtenB))))) := fun h => by
            obtain ⟨Ls, h1, h2⟩ := HP.out h
            have h3 := (P00.out h).2.1
            cases Ls with
            | nil => rw [h1, List.append_nil] at h3; omega
            | cons x Ls =>
              refine ⟨x, Ls, h1, right_mem (HONE.out h).1 x (by rw [h1]; simp), ?_⟩
              rw [h2, List.flatMap_cons, writtenB]
              simp
          have HOW : Hid _ := And.intro hown hbel
          have HDL0 : Hid (done.length = i) := hdl
          clear hown hbel HP
          have hqz := HQZ.out
          obtain ⟨⟨v1, k1, ok1⟩, HA1⟩ : ∃ a, Hid (getB (strB q) = a) := ⟨_, rfl⟩
          have P1 : Hid (ok = true → ok1 = true ∧ v1 ≤ 100 ∧ ∃ x Ls, L0 = done ++ x :: Ls ∧ oneT x ∧ v1 = x.lv.toNat ∧ (strB q).drop k1 = putB x.ct.toNat ++ (x.root ++ (textB (strB x.first) ++ (textB (strB x.last) ++ Ls.flatMap writtenB)))) := fun h => by
            obtain ⟨x, Ls, h1, h2, h3⟩ := P0.out h
            have h5 := h2.2.1
            have h4 := num_step HA1.out h3 (by omega)
            exact ⟨h4.2.1, by rw [h4.1]; omega, x, Ls, h1, h2, h4.1, h4.2.2⟩
          have CG1 : Hid _ := refGet_any q wr (by omega)
          rw [HA1.out] at CG1
          clear P0
          go_wp2_with fail
          refine Calls.mono CG1.out ?_
          rintro e wx ⟨rfl, rfl⟩
          clear CG1
          cases ok1 with
          | false =>
            have hok : ok = false := by
              cases hh : ok with
              | false => rfl
              | true => exact absurd (P1.out hh).1 (by decide)
            subst hok
            obtain rfl : er = 2 := HER.out.symm
            go_wp2
            go_ret2
            exact ⟨.slice none 0 0, rfl, ⟨fun h => (by cases h), fun _ => rfl⟩, HOW.out.2⟩
          | true =>
            by_cases hv1 : 100 < v1
            · have hv1z : (100 : Int) < (v1 : Int) := by omega
              have hok : ok = false := by
                cases hh : ok with
                | false => rfl
                | true => exact absurd (P1.out hh).2.1 (by omega)
              subst hok
              obtain rfl : er = 2 := HER.out.symm
              go_wp2
              go_ret2
              exact ⟨.slice none 0 0, rfl, ⟨fun h => (by cases h), fun _ => rfl⟩, HOW.out.2⟩
            · have hv1z : ¬ (100 : Int) < (v1 : Int) := by omega
              have hk1 : k1 ≤ q.size := by rw [← strB_length]; exact (getB_once _ _ _ HA1.out).2.2.1
              have hk1z : (k1 : Int) ≤ (q.size : Int) := by omega
              have hk1y : (0 : Int) ≤ (k1 : Int) := by omega
              go_upto_region 13 with fail
              obtain ⟨q1, HQ1⟩ : ∃ y, Hid (q.extract k1 q.size = y) := ⟨_, rfl⟩
              rw [HQ1.out]
              have HQB1 : Hid (strB q1 = (strB q).drop k1) := by show _ = _; rw [← HQ1.out]; exact strB_from q k1 hk1
              have hq1 : q1.size ≤ 5000 := by rw [← HQ1.out]; exact Nat.le_trans (size_to q k1) hqz
              rw [← HQB1.out] at P1
              clear hk1 hk1z hk1y hqz HQ1
              obtain ⟨⟨v2, k2, ok2⟩, HA2⟩ : ∃ a, Hid (getB (strB q1) = a) := ⟨_, rfl⟩
              have P2 : Hid (ok = true → ok2 = true ∧ v2 ≤ 100 ∧ 32 ≤ q1.size - k2 ∧ ∃ x Ls, L0 = done ++ x :: Ls ∧ oneT x ∧ v1 = x.lv.toNat ∧ v2 = x.ct.toNat ∧ (strB q1).drop k2 = x.root ++ (textB (strB x.first) ++ (textB (strB x.last) ++ Ls.flatMap writtenB))) := fun h => by
                obtain ⟨-, -, x, Ls, h1, h2, h3, h4⟩ := P1.out h
                have h6 := h2.2.2.2.1
                have h5 := num_step HA2.out h4 (by omega)
                refine ⟨h5.2.1, by rw [h5.1]; omega, ?_, x, Ls, h1, h2, h3, h5.1, h5.2.2⟩
                have h7 := congrArg List.length h5.2.2
                rw [List.length_drop, strB_length, List.length_append, x.hr] at h7
                omega
              have CG2 : Hid _ := refGet_any q1 wx (by omega)
              rw [HA2.out] at CG2
              clear P1
              go_wp2_with fail
              refine Calls.mono CG2.out ?_
              rintro e wy ⟨rfl, rfl⟩
              clear CG2
              cases ok2 with
              | false =>
                have hok : ok = false := by
                  cases hh : ok with
                  | false => rfl
                  | true => exact absurd (P2.out hh).1 (by decide)
                subst hok
                obtain rfl : er = 2 := HER.out.symm
                go_wp2
                go_ret2
                exact ⟨.slice none 0 0, rfl, ⟨fun h => (by cases h), fun _ => rfl⟩, HOW.out.2⟩
              | true =>
                by_cases hv2 : 100 < v2
                · have hv2z : (100 : Int) < (v2 : Int) := by omega
                  have hok : ok = false := by
                    cases hh : ok with
                    | false => rfl
                    | true => exact absurd (P2.out hh).2.1 (by omega)
                  subst hok
                  obtain rfl : er = 2 := HER.out.symm
                  go_wp2
                  go_ret2
                  exact ⟨.slice none 0 0, rfl, ⟨fun h => (by cases h), fun _ => rfl⟩, HOW.out.2⟩
                · have hv2z : ¬ (100 : Int) < (v2 : Int) := by omega
                  have hk2 : k2 ≤ q1.size := by rw [← strB_length]; exact (getB_once _ _ _ HA2.out).2.2.1
                  by_cases h32 : q1.size - k2 < 32
                  · have h32z : (q1.size : Int) - (k2 : Int) < 32 := by omega
                    have hok : ok = false := by
                      cases hh : ok with
                      | false => rfl
                      | true => exact absurd (P2.out hh).2.2.1 (by omega)
                    subst hok
                    obtain rfl : er = 2 := HER.out.symm
                    go_wp2
                    go_ret2
                    exact ⟨.slice none 0 0, rfl, ⟨fun h => (by cases h), fun _ => rfl⟩, HOW.out.2⟩
                  have h32z : ¬ ((q1.size : Int) - (k2 : Int) < 32) := by omega
                  have HWV1 : Hid (IntKind.i64.wrap (v1 : Int) = (v1 : Int)) := IntWalk.i64_in _ ⟨by omega, by omega⟩
                  have HWV2 : Hid (IntKind.i64.wrap (v2 : Int) = (v2 : Int)) := IntWalk.i64_in _ ⟨by omega, by omega⟩
                  go_wp2_with (refine wpList_store_box _ rfl (.tmp 16) (.tmp 84) rfl wy.heap.size rfl ((zT.lev (v1 : Int)).cnt (v2 : Int)) rfl _ (heap_alloc_new wy _) rfl ?_)
                  intro w3 hbox hchg
                  obtain ⟨x3, HX3⟩ : ∃ x, Hid ((zT.lev (v1 : Int)).cnt (v2 : Int) = x) := ⟨_, rfl⟩
                  rw [HX3.out] at hbox
                  have HBX3 : Hid (Box w3 wy.heap.size x3) := hbox
                  have HB3 : Hid (Below wy.heap.size wy w3) := (bel_alloc wy _).trans (hchg.below (Nat.le_refl _) (by simp))
                  clear hbox hchg
                  obtain ⟨e2, HE2⟩ : ∃ e, Hid (k2 + 32 = e) := ⟨_, rfl⟩
                  have he2 : k2 + 32 = e2 := HE2.out
                  obtain ⟨dq, HDQ⟩ : ∃ d, Hid (q1.extract k2 e2 = d) := ⟨_, rfl⟩
                  have HDS : Hid (dq.size = 32) := by show _ = _; rw [← HDQ.out, ByteArray.size_extract]; omega
                  have HDL : Hid ((strB dq).length = 32) := by show _ = _; rw [strB_length]; exact HDS.out
                  have HTH : Hid (∀ j, j < 32 → (w3.cell? ⟨wy.heap.size, 2 + j, none⟩).isSome = true) := fun j hj => by
                    have h1 : (encT x3)[2 + j]? = some ((encT x3)[2 + j]'(by rw [encT_len]; omega)) := List.getElem?_eq_getElem _
                    rw [HBX3.out.at_ h1]; rfl
                  have hk2w : IntKind.i64.wrap ((k2 : Int) + 32) = (e2 : Int) := by rw [← he2]; exact IntWalk.i64_in _ ⟨by omega, by omega⟩
                  have hk2a : (e2 : Int) ≤ (q1.size : Int) := by omega
                  have hk2b : e2 ≤ q1.size := by omega
                  have hk2c : (k2 : Int) ≤ (e2 : Int) := by omega
                  have hk2d : k2 ≤ e2 := by omega
                  have hk2e : (0 : Int) ≤ (e2 : Int) := by omega
                  clear he2
                  go_upto_region 17 with fail
                  refine wp_region_held_drew (S := fun _ => True) (by kernel_rfl) (trivial) (fun hS => ?_)
                  refine wpAnyH_take (i := 0) (v := ?_) rfl (by kernel_rfl) (by kernel_rfl) (by kernel_rfl) (fun _ _ _ h => h) (Or.inl ⟨by rfl, ?_⟩) (by assumption) ?_
                  rotate_left
                  · (intro w hSw; (try dsimp only at hSw); go_simp; try with_reducible rfl)
                  simp only [Act.put, List.getElem_toArray, List.getElem_cons_zero, List.setIfInBounds_toArray, List.set_cons_zero, List.set_cons_succ]
                  refine wpAnyH_take (i := 1) (v := ?_) rfl (by kernel_rfl) (by kernel_rfl) (by kernel_rfl) (fun _ _ _ h => h) (Or.inl ⟨by rfl, ?_⟩) (by assumption) ?_
                  rotate_left
                  · (intro w hSw; (try dsimp only at hSw); go_simp; try with_reducible rfl)
                  simp only [Act.put, List.getElem_toArray, List.getElem_cons_zero, List.getElem_cons_succ, List.setIfInBounds_toArray, List.set_cons_zero, List.set_cons_succ]
                  refine wpAnyH_take (i := 2) (v := ?_) rfl (by kernel_rfl) (by kernel_rfl) (by kernel_rfl) (fun _ _ _ h => h) (Or.inl ⟨by rfl, ?_⟩) (by assumption) ?_
                  rotate_left
                  · (intro w hSw; (try dsimp only at hSw); go_simp; try with_reducible rfl)
                  simp only [Act.put, List.getElem_toArray, List.getElem_cons_zero, List.getElem_cons_succ, List.setIfInBounds_toArray, List.set_cons_zero, List.set_cons_succ]
                  refine wpAnyH_take (i := 3) (v := ?_) rfl (by kernel_rfl) (by kernel_rfl) (by kernel_rfl) (fun _ _ _ h => h) (Or.inl ⟨by rfl, ?_⟩) (by assumption) ?_
                  rotate_left
                  · (intro w hSw; (try dsimp only at hSw); go_simp; try with_reducible rfl)
                  simp only [Act.put, List.getElem_toArray, List.getElem_cons_zero, List.getElem_cons_succ, List.setIfInBounds_toArray, List.set_cons_zero, List.set_cons_succ]
                  refine wpAnyH_take (i := 4) (v := ?_) rfl (by kernel_rfl) (by kernel_rfl) (by kernel_rfl) (fun _ _ _ h => h) (Or.inl ⟨by rfl, ?_⟩) (by assumption) ?_
                  rotate_left
                  · (intro w hSw; (try dsimp only at hSw); go_simp; try with_reducible rfl)
                  simp only [Act.put, List.getElem_toArray, List.getElem_cons_zero, List.getElem_cons_succ, List.setIfInBounds_toArray, List.set_cons_zero, List.set_cons_succ]
                  refine wpAnyH_take (i := 5) (v := ?_) rfl (by kernel_rfl) (by kernel_rfl) (by kernel_rfl) (fun _ _ _ h => h) (Or.inl ⟨by rfl, ?_⟩) (by assumption) ?_
                  rotate_left
                  · (intro w hSw; (try dsimp only at hSw); go_simp; try with_reducible rfl)
                  simp only [Act.put, List.getElem_toArray, List.getElem_cons_zero, List.getElem_cons_succ, List.setIfInBounds_toArray, List.set_cons_zero, List.set_cons_succ]
                  refine wpAnyH_take (i := 6) (v := ?_) rfl (by kernel_rfl) (by kernel_rfl) (by kernel_rfl) (fun _ _ _ h => h) (Or.inl ⟨by rfl, ?_⟩) (by assumption) ?_
                  rotate_left
                  · (intro w hSw; (try dsimp only at hSw); go_simp; try with_reducible rfl)
                  simp only [Act.put, List.getElem_toArray, List.getElem_cons_zero, List.getElem_cons_succ, List.setIfInBounds_toArray, List.set_cons_zero, List.set_cons_succ]
                  refine wpAnyH_ready (rs := [7]) (by kernel_rfl) (by simp) ?_
                  refine AllReadyH.cons rfl (fun K hK => ?_) AllReadyH.nil
                  rw [HDQ.out]
                  refine Go.step_copy_string rfl (.tmp 86) (.tmp 91) 25 9 rfl 5 Tryd.underlying25 Sm.sizeOf5 wy.heap.size 2 32 32 rfl dq rfl (by rw [HDS.out]; omega) (fun j hj => HTH.out j (by rw [HDS.out] at hj; exact hj)) (fun j hj => HBX3.out.frozen _) ?_
                  refine hK.out _ _ trivial (fun hHeld2 => ?_)
                  clear hK K
                  refine wpAnyH_done (by kernel_rfl) ?_ _
                  have HBX4 : Hid (Box (w3.drew.setCells wy.heap.size 2 (cellsOf (strB dq))) wy.heap.size (x3.rt (strB dq) HDL.out)) := by
                    have hd : Box w3.drew wy.heap.size x3 := HBX3.out
                    show Box _ _ _
                    rw [Box.sets hd _ HDL.out]
                    exact box_row _ hd
                  have HS4 : Hid (Below wy.heap.size wy (w3.drew.setCells wy.heap.size 2 (cellsOf (strB dq)))) := below_setCells (Nat.le_refl _) _ _ _ (Below.drew HB3.out)
                  obtain ⟨x4, HX4⟩ : ∃ x, Hid (x3.rt (strB dq) HDL.out = x) := ⟨_, rfl⟩
                  obtain ⟨w4, HW4⟩ : ∃ W, Hid (w3.drew.setCells wy.heap.size 2 (cellsOf (strB dq)) = W) := ⟨_, rfl⟩
                  rw [HX4.out, HW4.out] at HBX4
                  rw [HW4.out] at HS4
                  rw [show w3.drew.setCells wy.heap.size 2 (List.map (fun x => Value.int .u8 (x.toNat : Int)) dq.data.toList) = w4 from HW4.out]
                  have P3 : Hid (ok = true → ∃ x Ls, L0 = done ++ x :: Ls ∧ oneT x ∧ v1 = x.lv.toNat ∧ v2 = x.ct.toNat ∧ strB dq = x.root ∧ (strB q1).drop e2 = textB (strB x.first) ++ (textB (strB x.last) ++ Ls.flatMap writtenB)) := fun h => by
                    obtain ⟨-, -, -, x, Ls, h1, h2, h3, h4, h5⟩ := P2.out h
                    refine ⟨x, Ls, h1, h2, h3, h4, ?_, ?_⟩
                    · rw [← HDQ.out, ← HE2.out, extract_strB, strB_mk, h5, List.take_left' x.hr]
                    · rw [← HE2.out, ← List.drop_drop, h5, List.drop_left' x.hr]
                  obtain ⟨q2, HQ2⟩ : ∃ y, Hid (q1.extract e2 q1.size = y) := ⟨_, rfl⟩
                  have HQB2 : Hid (strB q2 = (strB q1).drop e2) := by show _ = _; rw [← HQ2.out]; exact strB_from q1 e2 hk2b
                  have hq2 : q2.size ≤ 5000 := by rw [← HQ2.out]; exact Nat.le_trans (size_to q1 e2) hq1
                  rw [← HQB2.out] at P3
                  clear P2 HW4 HBX3 HB3 HTH hS hHeld2
                  go_upto_region 19 with fail
                  rw [HQ2.out]
                  clear hk2 hk2a hk2b hk2c hk2d hk2e hk2w HQ2 h32 h32z
                  obtain ⟨⟨F, k3, ok3⟩, HA3⟩ : ∃ a, Hid (textOf (strB q2) = a) := ⟨_, rfl⟩
                  have HFS : Hid (F.length ≤ 5000) := by show _ ≤ _; have := text_size HA3.out; rw [strB_length] at this; omega
                  have P4 : Hid (ok = true → ok3 = true ∧ ∃ x Ls, L0 = done ++ x :: Ls ∧ oneT x ∧ v1 = x.lv.toNat ∧ v2 = x.ct.toNat ∧ strB dq = x.root ∧ F = strB x.first ∧ (strB q2).drop k3 = textB (strB x.last) ++ Ls.flatMap writtenB) := fun h => by
                    obtain ⟨x, Ls, h1, h2, h3, h4, h5, h6⟩ := P3.out h
                    have h7 := key_small h2.2.2.2.2.1
                    have h8 := text_step HA3.out h6 (by rw [strB_length]; omega)
                    exact ⟨h8.2.1, x, Ls, h1, h2, h3, h4, h5, h8.1, h8.2.2⟩
                  have CT1 : Hid _ := refText_any q2 w4 (by omega)
                  rw [HA3.out] at CT1
                  clear P3
                  go_wp2_with fail
                  refine Calls.mono CT1.out ?_
                  rintro e w5 ⟨rfl, rfl⟩
                  clear CT1
                  cases ok3 with
                  | false =>
                    have hok : ok = false := by
                      cases hh : ok with
                      | false => rfl
                      | true => exact absurd (P4.out hh).1 (by decide)
                    subst hok
                    obtain rfl : er = 2 := HER.out.symm
                    go_wp2
                    go_ret2
                    exact ⟨.slice none 0 0, rfl, ⟨fun h => (by cases h), fun _ => rfl⟩, HOW.out.2.trans (HS4.out.mono HOW.out.2.size)⟩
                  | true =>
                    have hk3 : k3 ≤ q2.size := by rw [← strB_length]; exact (textOf_once _ _ _ HA3.out).1
                    have hk3z : (k3 : Int) ≤ (q2.size : Int) := by omega
                    have hk3y : (0 : Int) ≤ (k3 : Int) := by omega
                    obtain ⟨q3, HQ3⟩ : ∃ y, Hid (q2.extract k3 q2.size = y) := ⟨_, rfl⟩
                    have HQB3 : Hid (strB q3 = (strB q2).drop k3) := by show _ = _; rw [← HQ3.out]; exact strB_from q2 k3 hk3
                    have hq3 : q3.size ≤ 5000 := by rw [← HQ3.out]; exact Nat.le_trans (size_to q2 k3) hq2
                    rw [← HQB3.out] at P4
                    go_upto_region 23 with fail
                    rw [HQ3.out]
                    clear hk3 hk3z hk3y HQ3 hq2
                    obtain ⟨⟨G, k4, ok4⟩, HA4⟩ : ∃ a, Hid (textOf (strB q3) = a) := ⟨_, rfl⟩
                    have HGS : Hid (G.length ≤ 5000) := by show _ ≤ _; have := text_size HA4.out; rw [strB_length] at this; omega
                    have P5 : Hid (ok = true → ok4 = true ∧ ∃ x Ls, L0 = done ++ x :: Ls ∧ oneT x ∧ v1 = x.lv.toNat ∧ v2 = x.ct.toNat ∧ strB dq = x.root ∧ F = strB x.first ∧ G = strB x.last ∧ (strB q3).drop k4 = Ls.flatMap writtenB) := fun h => by
                      obtain ⟨-, x, Ls, h1, h2, h3, h4, h5, h6, h7⟩ := P4.out h
                      have h9 := key_small h2.2.2.2.2.2.1
                      have h8 := text_step HA4.out h7 (by rw [strB_length]; omega)
                      exact ⟨h8.2.1, x, Ls, h1, h2, h3, h4, h5, h6, h8.1, h8.2.2⟩
                    have CT2 : Hid _ := refText_any q3 w5 (by omega)
                    rw [HA4.out] at CT2
                    clear P4
                    go_wp2_with fail
                    refine Calls.mono CT2.out ?_
                    rintro e w6 ⟨rfl, rfl⟩
                    clear CT2
                    cases ok4 with
                    | false =>
                      have hok : ok = false := by
                        cases hh : ok with
                        | false => rfl
                        | true => exact absurd (P5.out hh).1 (by decide)
                      subst hok
                      obtain rfl : er = 2 := HER.out.symm
                      go_wp2
                      go_ret2
                      exact ⟨.slice none 0 0, rfl, ⟨fun h => (by cases h), fun _ => rfl⟩, HOW.out.2.trans (HS4.out.mono HOW.out.2.size)⟩
                    | true =>
                      have hk4 : k4 ≤ q3.size := by rw [← strB_length]; exact (textOf_once _ _ _ HA4.out).1
                      have hk4z : (k4 : Int) ≤ (q3.size : Int) := by omega
                      have hk4y : (0 : Int) ≤ (k4 : Int) := by omega
                      obtain ⟨q4, HQ4⟩ : ∃ y, Hid (q3.extract k4 q3.size = y) := ⟨_, rfl⟩
                      have HQB4 : Hid (strB q4 = (strB q3).drop k4) := by show _ = _; rw [← HQ4.out]; exact strB_from q3 k4 hk4
                      have hq4 : q4.size ≤ 5000 := by rw [← HQ4.out]; exact Nat.le_trans (size_to q3 k4) hq3
                      rw [← HQB4.out] at P5
                      obtain ⟨-, -, c34, -⟩ := HBX4.out.four
                      have f34 := HBX4.out.frozen 34
                      go_upto_region 27 with fail
                      rw [HQ4.out]
                      clear hk4 hk4z hk4y HQ4 hq3
                      go_upto_region 28 with fail
                      have HBX5 : Hid (Box (w6.setCell ⟨wy.heap.size, 34, none⟩ (.string ⟨F.toArray⟩)) wy.heap.size (x4.fst ⟨F.toArray⟩)) := HBX4.out.set (encT_fst x4 _)
                      have HS5 : Hid (Below wy.heap.size wy (w6.setCell ⟨wy.heap.size, 34, none⟩ (.string ⟨F.toArray⟩))) := below_set HBX4.out HS4.out (Nat.le_refl _)
                      clear c34 f34 HBX4 HS4
                      generalize w6.setCell ⟨wy.heap.size, 34, none⟩ (.string ⟨F.toArray⟩) = w7 at *
                      have d35 : w7.cell? ⟨wy.heap.size, 35, none⟩ = some (.string (x4.fst ⟨F.toArray⟩).last) := HBX5.out.four.2.2.2
                      have f35 := HBX5.out.frozen 35
                      go_upto_region 29 with fail
                      obtain ⟨y, HY⟩ : ∃ y, Hid ((x4.fst ⟨F.toArray⟩).lst ⟨G.toArray⟩ = y) := ⟨_, rfl⟩
                      have HB8 : Hid (Box (w7.setCell ⟨wy.heap.size, 35, none⟩ (.string ⟨G.toArray⟩)) wy.heap.size y) := by rw [← HY.out]; exact HBX5.out.set (encT_lst _ _)
                      have HS8 : Hid (Below wy.heap.size wy (w7.setCell ⟨wy.heap.size, 35, none⟩ (.string ⟨G.toArray⟩))) := below_set HBX5.out HS5.out (Nat.le_refl _)
                      clear d35 f35 HBX5 HS5
                      generalize w7.setCell ⟨wy.heap.size, 35, none⟩ (.string ⟨G.toArray⟩) = w8 at *
                      have HW8 : Hid (Below w0.heap.size w0 w8) := HOW.out.2.trans (HS8.out.mono HOW.out.2.size)
                      have HOA : Hid ((w8.alloc (.cells (encT y).toArray 51)).ownsRow w0.heap.size 51 36 u8 done.length (flatT done)) := (own_below HOW.out.1 HS8.out (Nat.le_refl _)).alloc _
                      have HBA : Hid (w0.heap.size ≤ (w8.alloc (.cells (encT y).toArray 51)).heap.size) := by show _ ≤ _; have := HW8.out.size; simp; omega
                      have hd5 : done.length ≤ 512 := by have := HDL0.out; have := HN5.out; omega
                      have P6 : Hid (ok = true → ∃ Ls, L0 = (done ++ [y]) ++ Ls ∧ strB q4 = Ls.flatMap writtenB) := fun h => by
                        obtain ⟨-, x, Ls, h1, h2, h3, h4, h5, h6, h7, h8⟩ := P5.out h
                        have hxy : x = y := by
                          rw [← HY.out, ← HX4.out, ← HX3.out]
                          refine Tb.same ?_ ?_ ?_ ?_ ?_
                          · show x.lv = (v1 : Int); rw [h3]; have := h2.1; omega
                          · show x.ct = (v2 : Int); rw [h4]; have := h2.2.2.1; omega
                          · exact h5.symm
                          · show x.first = ⟨F.toArray⟩; rw [h6]; rfl
                          · show x.last = ⟨G.toArray⟩; rw [h7]; rfl
                        exact ⟨Ls, by rw [h1, hxy]; simp, h8⟩
                      have HSD2 : Hid (∀ x ∈ done ++ [y], x.first.size ≤ 5000 ∧ x.last.size ≤ 5000) := fun x hx => by
                        rcases List.mem_append.1 hx with hx | hx
                        · exact HSD.out x hx
                        · rw [List.mem_singleton] at hx
                          rw [hx, ← HY.out]
                          refine ⟨?_, ?_⟩
                          · show F.toArray.size ≤ 5000; rw [List.size_toArray]; exact HFS.out
                          · show G.toArray.size ≤ 5000; rw [List.size_toArray]; exact HGS.out
                      have HQZ4 : Hid (q4.size ≤ 5000) := hq4
                      clear P5 HY HX4 HX3 HSD HFS HGS hq4 HQZ
                      go_wp2_with (first | (refine wpList_load_row rfl 51 (.tmp 16) rfl wy.heap.size rfl 51 (encT y).toArray (0, 0) _ HB8.out Tryd.underlying51 rfl (sizeTA _) ?_) | (refine wpList_build_tab _ rfl (.tmp 124) rfl y rfl ?_) | (at_builtin; refine wpList_append_tabs _ rfl (.tmp 123) (.tmp 125) rfl w0.heap.size _ done.length done rfl HOA.out HBA.out _ 1 1 [y] rfl (tabsV_one w8 _) (fun h => by cases h) (by omega) ?_))
                      intro v' w9 hown9 hb9
                      have HN : Hid (w9.ownsRow w0.heap.size 51 36 v' (done ++ [y]).length (flatT (done ++ [y])) ∧ Below w0.heap.size w0 w9) := And.intro (by rw [List.length_append, HDL0.out]; exact hown9) ((HW8.out.alloc HW8.out.size _).trans hb9)
                      clear hown9 hb9
                      go_wp2
                      go_roundw
                      case rel => exact ⟨i + 1, done ++ [y], q4, rfl, by go_num, by omega, by rw [List.length_append, HDL0.out]; rfl, HQZ4.out, P6.out, HSD2.out, HN.out.1, HN.out.2⟩
                      case measure => simp [intOf]; omega
        · have hltz : ¬ (i : Int) < (n : Int) := by omega
          have hi2 : i = n := by omega
          obtain ⟨ao, c, rfl, hTV, -, hnc, hcb, hln⟩ := own_tabsV hown
          have HP7 : Hid (ok = true → L0 = done) := fun h => by
            obtain ⟨Ls, h1, -⟩ := HP.out h
            have h3 := (P00.out h).2.1
            have h4 := congrArg List.length h1
            rw [List.length_append, ← h3, hdl, hi2] at h4
            rw [h1, List.eq_nil_of_length_eq_zero (by omega : Ls.length = 0), List.append_nil]
          have hd5 : n ≤ 512 := HN5.out
          have hdn : done.length = n := by omega
          have HDN : Hid (done.length = n) := hdn
          rw [hdn] at hTV hown ⊢
          have HOW : Hid _ := And.intro hown hbel
          have CB : Hid _ := refBytes14_any ao n c done wr hTV (fun x hx => ⟨by have := (HSD.out x hx).1; omega, by have := (HSD.out x hx).2; omega⟩) (by omega)
          obtain ⟨r, HR⟩ : ∃ r, Hid (rightTB done = r) := ⟨_, rfl⟩
          obtain ⟨z, HZ⟩ : ∃ z, Hid (mkS (sumB done) = z) := ⟨_, rfl⟩
          rw [HR.out, HZ.out] at CB
          have HP8 : Hid (ok = true → r = true ∧ z = s) := fun h => by
            have h1 := HP7.out h
            have h2 := HONE.out h
            rw [h1] at h2
            refine ⟨by rw [← HR.out]; exact rightTB_iff.2 h2.1, ?_⟩
            rw [← HZ.out, h2.2, ← HBS.out]; rfl
          have HP9 : Hid (r = true → z = s → ok = true ∧ L0 = done) := fun h1 h2 => HTWO.out done (rightTB_iff.1 (by rw [HR.out]; exact h1)) (by rw [← HBS.out, ← h2, ← HZ.out, mkS_strB])
          clear hTV hown hbel HP HSD hnc hcb hln HQZ hdn hdl
          cases r with
          | false =>
            have CB2 : Hid (Calls Tryd.prog 14 #[.slice ao n c] wr fun e w' => e = .returned (.tuple #[.string ByteArray.empty, .int .i64 1]) ∧ Below wr.heap.size wr w') := CB.out
            clear CB
            go_wp2_with fail
            refine Calls.mono CB2.out ?_
            rintro e wz ⟨rfl, hbz⟩
            have HBZ : Hid (Below w0.heap.size w0 wz) := HOW.out.2.trans (hbz.mono HOW.out.2.size)
            clear hbz CB2
            have hok : ok = false := by
              cases hh : ok with
              | false => rfl
              | true => exact absurd (HP8.out hh).1 (by decide)
            subst hok
            obtain rfl : er = 2 := HER.out.symm
            go_wp2
            go_ret2
            exact ⟨.slice none 0 0, rfl, ⟨fun h => (by cases h), fun _ => rfl⟩, HBZ.out⟩
          | true =>
            have CB2 : Hid (Calls Tryd.prog 14 #[.slice ao n c] wr fun e w' => e = .returned (.tuple #[.string z, .int .i64 0]) ∧ Below wr.heap.size wr w') := CB.out
            clear CB
            go_wp2_with fail
            refine Calls.mono CB2.out ?_
            rintro e wz ⟨rfl, hbz⟩
            have HBZ : Hid (Below w0.heap.size w0 wz) := HOW.out.2.trans (hbz.mono HOW.out.2.size)
            have HOZ : Hid (wz.ownsRow w0.heap.size 51 36 (.slice ao n c) n (flatT done)) := own_below HOW.out.1 hbz (Nat.le_refl _)
            clear hbz CB2
            by_cases hse : z = s
            · obtain ⟨hok, hL⟩ := HP9.out (by first | trivial | rfl) hse
              subst hok
              obtain rfl : er = 0 := HER.out.symm
              go_wp2
              go_ret2
              exact ⟨_, rfl, ⟨fun _ => by rw [hL, HDN.out]; exact HOZ.out, fun h => (by cases h)⟩, HBZ.out⟩
            · have hze : (z.toList == s.toList) = false := by rw [eq_cmpS]; exact decide_eq_false hse
              have hok : ok = false := by
                cases hh : ok with
                | false => rfl
                | true => exact absurd (HP8.out hh).2 hse
              have HOKF : Hid (ok = false) := hok
              clear hok
              go_wp2
              have hok := HOKF.out
              subst hok
              obtain rfl : er = 2 := HER.out.symm
              go_ret2
              exact ⟨.slice none 0 0, rfl, ⟨fun h => (by cases h), fun _ => rfl⟩, HBZ.out⟩
end Go.Proofs.YtiimmknnlciljaaDoor

/-
  An append to a row of the call's own, told with where the new row lies; bytes.Equal; block.footAt.
-/
import Derived.Test.YteemfhhhdhddhaaCur
import Derived.Test.YteemfhhhdhddhaaParM
namespace Go.Proofs.Yteemfhhhdhddhaa
open Go.RowKit Go.Sort Go.Shelf
set_option linter.unusedSectionVars false
variable [Inhabited E] [DecidableEq E]
set_option maxRecDepth 100000 in
theorem run_append_splitG (w : World) (base : Nat) (t ty e : TypeId) (i : TypeInfo) (z : Value) (size bytes : Nat) (ht : Try.prog.underlying t = some (.slice e)) (hi : Try.prog.info? e = some i) (hz0 : i.zero = some z)
    (hz1 : i.size = size) (hz2 : i.bytes = bytes) (hzs : z.cells.size = size) (hsz : 0 < size) (v : Value) (n : Nat) (xs : List Value) (hown : w.ownsRow base e size v n xs) (hbase : base ≤ w.heap.size)
    (ad : Addr) (m c : Nat) (news : List Value) (hl : news.length = m * size) (hnews : ∀ j u, news[j]? = some u → w.cell? (ad.add j) = some u) (h1 : ∀ u ∈ news, u.oneCell' = true) (hp : 0 < m) (hb : n + m ≤ 1000000) (hb2 : bytes ≤ 1000) :
    ∃ v' w', (Builtin.append_ #[t, t] ty #[v, .slice (some ad) m c]).run Try.prog w = .ok v' w' ∧ w'.ownsRow base e size v' (n + m) (xs ++ news) ∧ w.grownBy w' v.ownBlock ∧
      (v'.ownBlock = v.ownBlock ∨ ∃ g, v'.ownBlock = some g ∧ w.heap.size ≤ g) := by
  have hmul : (n + m) * bytes ≤ 1000000 * 1000 := Nat.mul_le_mul hb hb2
  obtain ⟨v', w', hr, h2, h3, h4⟩ := run_append_own (P := Try.prog) w base t ty e i z size bytes ht hi hz0 hz1 hz2 hzs hsz v n xs hown ad m c news hl hnews h1 (by unfold maxLen; omega) (by omega) hbase
  refine ⟨v', w', hr, h2, h3, ?_⟩
  rcases hown.2 with ⟨rfl, h0⟩ | ⟨g, cap, cur, rfl, hbg, hg, hnc, hcm, hcs, htake⟩
  · right
    have hmul2 : m * bytes ≤ 1000000 * 1000 := Nat.mul_le_mul (by omega) hb2
    have hr2 := run_append_nil (P := Try.prog) w t ty e i z ht hi hz0 ad m c news (by rw [hz1]; exact hl) hnews hp (by omega) (by rw [hz2]; omega)
    rw [hr2] at hr
    injection hr with e1 e2
    subst e1
    exact ⟨_, rfl, Nat.le_refl _⟩
  · by_cases hroom : n + m ≤ cap
    · left
      have hr2 := run_append_room (P := Try.prog) w t ty e i ht hi g n cap cur hg ad m c news (by rw [hz1]; exact hl) hnews h1 hroom (by rw [hz1, hl, hcs, ← Nat.add_mul]; exact Nat.mul_le_mul_right _ hroom)
      rw [hr2] at hr
      injection hr with e1 e2
      subst e1
      rfl
    · right
      have holds : ∀ j u, xs[j]? = some u → w.cell? ((⟨g, 0, none⟩ : Addr).add j) = some u := hown.cells (g := g) rfl
      have hr2 := run_append_grow (P := Try.prog) w t ty e i z ht hi hz0 ⟨g, 0, none⟩ n cap xs (by rw [hz1]; exact hown.1) holds ad m c news (by rw [hz1]; exact hl) hnews (by omega) (by omega) (growslice_fits (by omega) (by rw [hz2]; omega))
      rw [hr2] at hr
      injection hr with e1 e2
      subst e1
      exact ⟨_, rfl, Nat.le_refl _⟩
theorem wpList_append_splitG {ops : Array Oper} {rest : List Oper} {o : Oper} {a : Act} {Q : Exit → Act → World → Prop} (w : World)
    (hg : o.guard = none) (s x : Operand) (t e : TypeId) (hop : o.op = Op.call { callee := Callee.builtin Builtin.append, args := #[s, x], argTypes := #[t, t] }) (i : TypeInfo) (z : Value) (size bytes : Nat) (ht : Try.prog.underlying t = some (.slice e)) (hi : Try.prog.info? e = some i) (hz0 : i.zero = some z)
    (hz1 : i.size = size) (hz2 : i.bytes = bytes) (hzs : z.cells.size = size) (hsz : 0 < size)
    (base : Nat) (v : Value) (n : Nat) (xs : List Value) (hs : a.eval s = v) (hown : w.ownsRow base e size v n xs) (hbase : base ≤ w.heap.size)
    (ad : Addr) (m c : Nat) (news : List Value) (hx : a.eval x = .slice (some ad) m c) (hl : news.length = m * size) (hnews : ∀ j u, news[j]? = some u → w.cell? (ad.add j) = some u) (h1 : ∀ u ∈ news, u.oneCell' = true) (hp : 0 < m) (hb : n + m ≤ 1000000) (hb2 : bytes ≤ 1000)
    (hK : ∀ v' w', w'.ownsRow base e size v' (n + m) (xs ++ news) → w.grownBy w' v.ownBlock → (v'.ownBlock = v.ownBlock ∨ ∃ g, v'.ownBlock = some g ∧ w.heap.size ≤ g) → wpList Try.prog ops Q rest (a.put o.dst v') w') :
    wpList Try.prog ops Q (o :: rest) a w := by
  refine wpList_plain hg fun K hK2 => ?_
  obtain ⟨v', w', hr, h2, h3, h4⟩ := run_append_splitG w base t o.type e i z size bytes ht hi hz0 hz1 hz2 hzs hsz v n xs hown hbase ad m c news hl hnews h1 hp hb hb2
  unfold Oper.wp execOp
  simp only [hop, resolve, invoke, builtin, Sem.run_bind, Sem.run_pure, Result.andThen_ok, List.map_toArray, List.map_cons, List.map_nil, hs, hx, hr]
  exact hK2 _ _ (hK v' w' h2 h3 h4)
set_option maxRecDepth 100000 in
set_option maxHeartbeats 1000000 in
theorem bequal_any (ao bo : Option Addr) (n c m d : Nat) (xs ys : List UInt8) (w : World) (hx : Bytes w ao n xs) (hy : Bytes w bo m ys) :
    Calls Try.prog 80 #[.slice ao n c, .slice bo m d] w fun e w' => e = .returned (.bool (decide (xs = ys))) ∧ w' = w := by
  have h1 := str_bytes c hx
  have h2 := str_bytes d hy
  have HR : Hid ((xs == ys) = decide (xs = ys)) := by
    show _ = _
    by_cases h : xs = ys
    · subst h; simp
    · simp [h]
  clear hx hy
  go_enter Try.func80, Try.ntmps80
  go_wp2
  go_ret
  exact ⟨by rw [← HR.out]; rfl, rfl⟩
theorem fixOf_lt (bs : List UInt8) : (fixOf bs).1 < 4294967296 := by
  unfold fixOf
  split
  · simp
  · have h0 := (bs.getD 0 0).toNat_lt
    have h1 := (bs.getD 1 0).toNat_lt
    have h2 := (bs.getD 2 0).toNat_lt
    have h3 := (bs.getD 3 0).toNat_lt
    simp only
    omega
set_option maxRecDepth 100000 in
set_option maxHeartbeats 1000000 in
theorem footAt_any (ao : Option Addr) (n c : Nat) (bs : List UInt8) (w : World) (hb : Bytes w ao n bs) (hnc : n ≤ c) (hn : n ≤ 1000000) (hc : c ≤ 9223372036854775807) :
    Calls Try.prog 77 #[.slice ao n c] w fun e w' => Below w.heap.size w w' ∧ if 4 ≤ n ∧ (footN bs + 1) * 4 ≤ n then e = .returned (.int .i64 ((n - (footN bs + 1) * 4 : Nat) : Int)) else e = .panicked nb := by
  by_cases h4 : 4 ≤ n
  · have h4z : (4 : Int) ≤ (n : Int) := by omega
    obtain ⟨b, off, rfl, _⟩ := bytes_at hb (by omega)
    have hw4 : wrap64 ((n : Int) - 4) = ((n - 4 : Nat) : Int) := by unfold wrap64; omega
    have hsl : ((n - 4 : Nat) : Int) ≤ (n : Int) := by omega
    have hslc : ((n - 4 : Nat) : Int) < (c : Int) := by omega
    have CF := fixed_any (some ⟨b, off + (n - 4), none⟩) (n - (n - 4)) (c - (n - 4)) (bs.drop (n - 4)) w (bytes_drop hb (n - 4))
    have hfl := fixOf_lt (bs.drop (n - 4))
    have HF : Hid (footN bs = (fixOf (bs.drop (n - 4))).1) := by show _ = _; unfold footN; rw [hb.1]
    rw [HF.out]
    obtain ⟨⟨f, okf⟩, HX⟩ : ∃ x, Hid (fixOf (bs.drop (n - 4)) = x) := ⟨_, rfl⟩
    rw [HX.out] at CF hfl ⊢
    simp only at hfl
    have HCF : Hid _ := CF
    clear CF hb HX HF
    have hwa : IntKind.u64.wrap ((f : Int) + 1) = f + 1 := by rw [IntKind.wrap_u64]; omega
    have hwb : IntKind.u64.wrap (((f : Int) + 1) * 4) = (f + 1) * 4 := by rw [IntKind.wrap_u64]; omega
    have hwc : IntKind.u64.wrap (n : Int) = n := by rw [IntKind.wrap_u64]; omega
    have hwf : IntKind.u64.wrap (f : Int) = f := by rw [IntKind.wrap_u64]; omega
    have hwd : wrap64 (((f : Int) + 1) * 4) = (f + 1) * 4 := by unfold wrap64; omega
    by_cases hle : (f + 1) * 4 ≤ n
    · have hlz : ((f : Int) + 1) * 4 ≤ (n : Int) := by omega
      have hwe : wrap64 ((n : Int) - ((f : Int) + 1) * 4) = ((n - (f + 1) * 4 : Nat) : Int) := by unfold wrap64; omega
      simp only [if_pos (And.intro h4 hle)]
      go_enter Try.func77, Try.ntmps77
      go_wp2_with fail
      refine (must_yes _).mono ?_
      rintro e w2 ⟨rfl, rfl⟩
      go_wp2_with fail
      refine Calls.mono HCF.out ?_
      rintro e w2 ⟨rfl, hb2⟩
      have HB2 : Hid _ := hb2
      clear hb2
      go_wp2_with fail
      refine (must_yes _).mono ?_
      rintro e w3 ⟨rfl, rfl⟩
      go_wp2
      go_ret
      exact ⟨HB2.out, ret_i64 (by omega)⟩
    · have hlz : ¬ ((f : Int) + 1) * 4 ≤ (n : Int) := by omega
      have hlzd : decide (((f : Int) + 1) * 4 ≤ (n : Int)) = false := by simp; omega
      have hno : ¬ (4 ≤ n ∧ (f + 1) * 4 ≤ n) := fun h => hle h.2
      simp only [if_neg hno]
      clear hno
      go_enter Try.func77, Try.ntmps77
      go_wp2_with fail
      refine (must_yes _).mono ?_
      rintro e w2 ⟨rfl, rfl⟩
      go_wp2_with fail
      refine Calls.mono HCF.out ?_
      rintro e w2 ⟨rfl, hb2⟩
      have HB2 : Hid _ := hb2
      clear hb2
      go_wp2_with fail
      refine (must_no _).mono ?_
      rintro e w3 ⟨rfl, rfl⟩
      exact ⟨rfl, HB2.out, rfl⟩
  · have h4z : ¬ (4 : Int) ≤ (n : Int) := by omega
    have h4d : decide ((4 : Int) ≤ (n : Int)) = false := by simp; omega
    simp only [if_neg (fun h : 4 ≤ n ∧ (footN bs + 1) * 4 ≤ n => h4 h.1)]
    clear hb
    go_enter Try.func77, Try.ntmps77
    go_wp2_with fail
    refine (must_no _).mono ?_
    rintro e w2 ⟨rfl, rfl⟩
    exact ⟨rfl, Below.refl _ _, rfl⟩
end Go.Proofs.Yteemfhhhdhddhaa

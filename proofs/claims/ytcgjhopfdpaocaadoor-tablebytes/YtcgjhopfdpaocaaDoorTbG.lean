/-
  What table's read answers: a contract over this translation.
-/
import Derived.Test.YtcgjhopfdpaocaaDoorTbE
import Derived.Test.YtcgjhopfdpaocaaDoorPartBI
namespace Go.Proofs.YtcgjhopfdpaocaaDoor
open Go.RowKit Go.Sort Go.Shelf
set_option linter.unusedSectionVars false
variable [Inhabited E] [DecidableEq E]
attribute [local go_sem] Oper.semAt_some
theorem wpListIn_append_ents {F : Fence} {nn : Nat} {ops : Array Oper} {rest : List Oper} {o : Oper} {a : Act} {Q : Exit → Act → World → Prop} (w : World)
    (hg : o.guard = none) (s x : Operand) (hop : o.op = Op.call { callee := Callee.builtin Builtin.append, args := #[s, x], argTypes := #[22, 22] })
    (base : Nat) (v : Value) (n : Nat) (xs : List E) (hs : a.eval s = v) (hown : w.ownsRow base 51 4 v n (flatE xs)) (hbase : base ≤ w.heap.size)
    (ao : Option Addr) (m c : Nat) (ys : List E) (hx : a.eval x = .slice ao m c) (hE : EntsV w ao m ys) (h0 : ao = none → c = 0)
    (hb : n + m ≤ 1000000000000)
    (hK : ∀ v' w', w'.ownsRow base 51 4 v' (xs ++ ys).length (flatE (xs ++ ys)) → w.grownBy w' v.ownBlock → wpListIn F nn Tryd.prog ops Q rest (a.put o.dst v') w') :
    wpListIn F nn Tryd.prog ops Q (o :: rest) a w := by
  obtain ⟨i0, hi, hz0, hz1, hz2⟩ := info_parts info23
  have hn : n = xs.length := by have := hown.1; rw [flatE_len] at this; omega
  have hml := hE.1
  cases ao with
  | none =>
    have hm : m = 0 := by
      by_cases hp : 0 < m
      · obtain ⟨b, off, h1, _⟩ := hE.2 hp; cases h1
      · omega
    obtain rfl := h0 rfl
    subst hm
    have hys : ys = [] := List.eq_nil_of_length_eq_zero hml
    subst hys
    refine wpListIn_plain hg fun K hK' => ?_
    have hrun := run_append_owned_none (P := Tryd.prog) (w := w) base 22 o.type 51 i0 4 Tryd.underlying22 hi v n (flatE xs) hown
    unfold Oper.wpIn
    refine ⟨?_, ?_⟩
    · simp [Oper.about, hop, resolve, Target.leads, Sem.run_pure]
    · rw [Oper.semAt_plain F _ _ (by rw [hop]; intro c hc'; cases hc')]
      simp [execOp, hop, resolve, invoke, builtin, hs, hx, hrun, Result.andThen]
      exact hK' _ _ (hK v w (by rw [List.append_nil, ← hn]; exact hown) ⟨rfl, rfl, rfl, Nat.le_refl _, fun _ _ _ => rfl⟩)
  | some ad =>
    refine wpListIn_append_own w hg s x 22 hop base 51 i0 _ 4 48 Tryd.underlying22 hi hz0 hz1 hz2 rfl (by decide) v n (flatE xs) hs hown ad m c (flatE ys) hx (by rw [flatE_len]; omega) ?_ (flatE_one ys) (by unfold maxLen; omega) (by omega) hbase ?_
    · intro j u hu
      have hp : 0 < m := by
        have := (List.getElem?_eq_some_iff.1 hu).1
        rw [flatE_len] at this; omega
      obtain ⟨b, off, h1, h2⟩ := hE.2 hp
      cases h1
      rw [Addr.add_lit]
      exact h2 j u hu
    · intro v' w' h1 h2 _
      refine hK v' w' ?_ h2
      rw [List.length_append, hml, ← hn, flatE_append]
      exact h1
theorem results_box {fn : Func} {p : Tmp} (h : fn.results = #[.cell p 22]) (tmps : Array Value) (w : World) (g : Nat) (v : Value)
    (hp : tmps.getD p undef = .pointer (some ⟨g, 0, none⟩)) (hb : Boxed w g 22 v) : (results fn tmps).run Tryd.prog w = .ok v w := by
  have hp' : tmps[p]?.getD undef = .pointer (some ⟨g, 0, none⟩) := by simpa using hp
  have hc := hb.cell
  simp [results, h, hp', asAddr, go_sem, hc]
/-- What read's own variables hold between two rounds. -/
def RdI (w : World) (pre : List SV) (W : World) : Prop :=
  ∃ (ls : List (List E)) (v : Value), (∀ c ∈ ls, Once c) ∧ ls.map blockB = pre.map SV.bs ∧ ls.flatten.length ≤ 64 ∧ Boxed W w.heap.size 22 (.slice none 0 0) ∧ Boxed W (w.heap.size + 1) 22 v ∧ W.ownsRow w.heap.size 51 4 v ls.flatten.length (flatE ls.flatten) ∧ Below w.heap.size w W
def RdX (w : World) (pre : List SV) (W : World) : Prop := Bad (pre.map SV.bs) ∧ Boxed W w.heap.size 22 (.slice none 0 0) ∧ Below w.heap.size w W
theorem rdI_new (w : World) : AbNew (RdI w) := by
  rintro pre W W' ⟨ls, v, h1, h2, h3, h4, h5, h6, h7⟩ hb
  exact ⟨ls, v, h1, h2, h3, (hb.block _ h4.lt).trans h4, (hb.block _ h5.lt).trans h5, own_below h6 hb (Nat.le_refl _), h7.trans (hb.mono h7.size)⟩
theorem rdX_new (w : World) : AbNew (RdX w) := by
  rintro pre W W' ⟨h1, h2, h3⟩ hb
  exact ⟨h1, (hb.block _ h2.lt).trans h2, h3.trans (hb.mono h3.size)⟩
theorem rdI_put (w : World) (B : Nat) (hB : w.heap.size ≤ B) : AbPut B (RdI w) := by
  rintro pre W l o o' ⟨ls, v, h1, h2, h3, h4, h5, h6, h7⟩ hl ho hc
  exact ⟨ls, v, h1, h2, h3, box_put h4 o' ho hc, box_put h5 o' ho hc, owns_put h6 o' ho hc, below_put h7 l o' (by omega)⟩
theorem rdX_put (w : World) (B : Nat) (hB : w.heap.size ≤ B) : AbPut B (RdX w) := by
  rintro pre W l o o' ⟨h1, h2, h3⟩ hl ho hc
  exact ⟨h1, box_put h2 o' ho hc, below_put h3 l o' (by omega)⟩
theorem okS_put (n0 B : Nat) (pre : List SV) : AbPut B (OkS n0 pre) := by
  rintro x W l o o' ⟨h1, h2⟩ hl ho hc
  exact ⟨h1.put o' ho hc, h2⟩
theorem once_of {p : List UInt8} {l : List E} (h : IsBlock p l) : Once l ∧ blockB l = p := ⟨⟨h.1, fun l0 h1 h2 => h.2.2 l0 h1 (h2.trans h.2.1)⟩, h.2.1⟩
theorem all_once {ls : List (List E)} (h : ∀ c ∈ ls, Once c) : ls.flatten.all rightB = true := by
  rw [List.all_eq_true]
  intro e he
  obtain ⟨c, hc, hec⟩ := List.mem_flatten.1 he
  have := fit_all (h c hc).1
  rw [List.all_eq_true] at this
  exact this e hec
set_option maxRecDepth 100000 in
set_option maxHeartbeats 4000000 in
theorem readT_any (a : SV) (w : World) (ha : a.at w.heap.size w) (hn : a.n ≤ 1000000) :
    Calls Tryd.prog 45 #[.slice a.ao a.n a.c] w fun e w' => ∃ v, e = .returned v ∧ ∃ l : List E, w'.ownsRow w.heap.size 51 4 v l.length (flatE l) ∧ l.length ≤ 64 ∧ l.all rightB = true ∧ Reads a.bs l ∧ Below w.heap.size w w' := by
  have HA : Hid (a.at w.heap.size w) := ha
  clear ha
  refine (callsIn_wide (n := 3)).1 ?_
  refine callsIn_of_wp_marks Tryd.func45 rfl trivial (qm_mono (wpIn_wide.2 ?_)) rfl
  simp only [Tryd.ntmps45, List.size_toArray, List.length_cons, List.length_nil, Nat.reduceAdd, Nat.reduceSub, Array.replicate_succ, Array.replicate_zero, List.push_toArray, List.append_toArray, List.nil_append, List.cons_append]
  go_wp2_with fail
  refine (stored_new _ _ _ _).mono ?_
  rintro e w2 ⟨rfl, rfl⟩
  go_wp2_with fail
  obtain ⟨W0, hW0⟩ : ∃ W0, ((w.alloc (Obj.cells #[Value.slice none 0 0] 22)).alloc (Obj.cells #[Value.slice none 0 0] 22)).alloc (Obj.cells #[Value.slice a.ao a.n a.c] 25) = W0 := ⟨_, rfl⟩
  have hsz : W0.heap.size = w.heap.size + 3 := by rw [← hW0]; simp
  have hbel : Below w.heap.size w W0 := by rw [← hW0]; exact (((Below.refl _ w).alloc (Nat.le_refl _) _).alloc (by simp) _).alloc (by simp; omega) _
  have b0 : Boxed W0 w.heap.size 22 (.slice none 0 0) := by rw [← hW0]; exact ((Boxed.new w 22 _).alloc _).alloc _
  have b1 : Boxed W0 (w.heap.size + 1) 22 (.slice none 0 0) := by
    have := (Boxed.new (w.alloc (Obj.cells #[Value.slice none 0 0] 22)) 22 (.slice none 0 0)).alloc (Obj.cells #[Value.slice a.ao a.n a.c] 25)
    rw [World.size_alloc, hW0] at this; exact this
  have b2 : Boxed W0 (w.heap.size + 1 + 1) 25 (.slice a.ao a.n a.c) := by
    have := Boxed.new ((w.alloc (Obj.cells #[Value.slice none 0 0] 22)).alloc (Obj.cells #[Value.slice none 0 0] 22)) 25 (.slice a.ao a.n a.c)
    rw [World.size_alloc, World.size_alloc, hW0] at this; exact this
  rw [hW0]
  clear hW0
  refine wpIn_wide.1 (range_out (gf := 84) (lb := #[.pointer (some ⟨w.heap.size + 1 + 1, 0, none⟩)]) rfl (enters_of Tryd.func84 (by kernel_rfl) rfl) (fun x : SV => #[.slice x.ao x.n x.c]) (fun _ => rfl)
    (RdI w) (RdX w) (fun xs _ => xs.map SV.bs = storedL a.bs) (fun xs _ => xs.map SV.bs <+: storedL a.bs) (Below w.heap.size) (OkS w.heap.size)
    (fun x => { tmps := #[.slice a.ao a.n a.c, undef, .pointer (some ⟨w.heap.size, 0, none⟩), .pointer (some ⟨w.heap.size + 1, 0, none⟩), .slice x.ao x.n x.c, undef, undef, .slice a.ao a.n a.c, .func (.func 84) #[] #[.pointer (some ⟨w.heap.size + 1 + 1, 0, none⟩)], .slice x.ao x.n x.c, undef, undef, undef, undef, undef, undef, undef, undef, undef, undef, undef, undef, undef, undef, undef, undef], defers := [] })
    ?seq (rdI_new w) (rdX_new w) (rdI_put w _ (by omega)) (rdX_put w _ (by omega)) (fun _ _ _ _ _ h _ _ _ => h) (fun _ _ _ _ _ h _ _ _ => h) (okS_put w.heap.size _) (fun h k => h.trans k) (fun W l o o' hl _ _ => below_put (Below.refl _ _) l o' (by omega)) ?start ?assign ?body ?done ?stp)
  case seq =>
    intro J Jx W hW hJ hJx hY h0
    exact stored_in (W0.heap.size + 1) (w.heap.size + 1 + 1) w.heap.size a J Jx hJ hY W ((hW.block _ b2.lt).trans b2) (HA.out.below (hbel.trans (hW.mono (by omega)))) hn (Nat.le_trans hbel.size hW.size) h0
  case start => exact ⟨[], _, (fun c hc => by cases hc), rfl, by simp, b0, b1, World.ownsRow_nil _ _ _ _, hbel⟩
  case assign =>
    intro x W K hK
    gi_wp2
    exact hK
  case body =>
    rintro pre ⟨xo, xn, xc, xb⟩ W ⟨ls, v, h1, h2, h3, h4, h5, h6, h7⟩ ⟨hx, hxn⟩
    have CP := parseb_any xo xn xc xb W hx.1 hx.2.1.2.1 hx.2.1.2.2 hxn
    have HCP : Hid _ := CP
    have H1 : Hid (∀ c ∈ ls, Once c) := h1
    have H2 : Hid (ls.map blockB = pre.map SV.bs) := h2
    have H4 : Hid (Boxed W w.heap.size 22 (.slice none 0 0)) := h4
    have H5 : Hid (Boxed W (w.heap.size + 1) 22 v) := h5
    have H6 : Hid (W.ownsRow w.heap.size 51 4 v ls.flatten.length (flatE ls.flatten)) := h6
    have H7 : Hid (Below w.heap.size w W) := h7
    obtain ⟨fl, HFL⟩ : ∃ fl, Hid (ls.flatten = fl) := ⟨_, rfl⟩
    rw [HFL.out] at H6 h3
    obtain ⟨L, HL⟩ : ∃ L, Hid (fl.length = L) := ⟨_, rfl⟩
    rw [HL.out] at H6 h3
    clear CP h1 h2 h4 h5 h6 h7 hx hbel b0 b1 b2
    gi_wp2
    refine ⟨trivial, (callsIn_wide.2 HCP.out).mono ?_⟩
    rintro e w1 ⟨hb1, he⟩
    have k4 : Boxed w1 w.heap.size 22 (.slice none 0 0) := (hb1.block _ H4.out.lt).trans H4.out
    have k5 : Boxed w1 (w.heap.size + 1) 22 v := (hb1.block _ H5.out.lt).trans H5.out
    have k6 : w1.ownsRow w.heap.size 51 4 v L (flatE fl) := own_below H6.out hb1 (Nat.le_refl _)
    have K4 : Hid (Boxed w1 w.heap.size 22 (.slice none 0 0)) := k4
    have K5 : Hid (Boxed w1 (w.heap.size + 1) 22 v) := k5
    have K6 : Hid (w1.ownsRow w.heap.size 51 4 v L (flatE fl)) := k6
    have K7 : Hid (Below w.heap.size W w1) := hb1.mono H7.out.size
    have KO : Hid (KeepsOthers W w1) := others_below hb1 (Nat.le_refl _)
    have KZ : Hid (w.heap.size ≤ w1.heap.size) := Nat.le_trans H7.out.size hb1.size
    have c5 := k5.cell
    clear hb1 HCP H4 H5 H6 k4 k5 k6
    have HAP : Hid (∀ (v' : Value) (w' : World) (ys : List E), w'.ownsRow w.heap.size 51 4 v' (fl ++ ys).length (flatE (fl ++ ys)) → w1.grownBy w' v.ownBlock →
        Boxed w' (w.heap.size + 1) 22 v ∧ Boxed (w'.setCell ⟨w.heap.size + 1, 0, none⟩ v') w.heap.size 22 (.slice none 0 0) ∧ Boxed (w'.setCell ⟨w.heap.size + 1, 0, none⟩ v') (w.heap.size + 1) 22 v' ∧ (w'.setCell ⟨w.heap.size + 1, 0, none⟩ v').ownsRow w.heap.size 51 4 v' (fl ++ ys).length (flatE (fl ++ ys)) ∧ Below w.heap.size W (w'.setCell ⟨w.heap.size + 1, 0, none⟩ v') ∧ KeepsOthers W (w'.setCell ⟨w.heap.size + 1, 0, none⟩ v')) := by
      intro v' w' ys hown hgr
      have q5 := K5.out.kept hgr (K5.out.not_row (by decide) K6.out)
      have q4 := K4.out.kept hgr (K4.out.not_row (by decide) K6.out)
      refine ⟨q5, (heap_set_far _ _ _ _ (by omega)).trans q4, q5.set v', hown.kept (grownBy_setCell' w' _ v') (.inr (q5.not_row (by decide) hown).symm), ?_, ?_⟩
      · exact (K7.out.trans ((Below.refl _ _).grown hgr KZ.out (fun k hk => (K6.out.lt k hk).1))).setCell (p := ⟨w.heap.size + 1, 0, none⟩) (by simp) v'
      · refine (KO.out.trans (KeepsOthers.of_grownBy hgr fun j o ej hj => ?_)).trans (KeepsOthers.setCell _ _ _)
        rcases K6.out.2 with ⟨rfl, _⟩ | ⟨g, cap, cur, rfl, _, hgb, _⟩
        · simp [Value.ownBlock] at ej
        · obtain rfl : g = j := by simpa [Value.ownBlock] using ej
          rw [hgb] at hj; cases hj; rfl
    rcases he with ⟨rfl, hno⟩ | ⟨l1, lo, lc, rfl, hIB, hEV, hl1, hlc⟩
    · have HNO : Hid (NoBlock xb) := hno
      clear hno
      gi_wp2_with (gi_at_builtin; refine wpListIn_append_ents _ rfl (.tmp 15) (.tmp 16) rfl w.heap.size v L fl rfl K6.out KZ.out none 0 0 [] rfl ⟨rfl, fun h => absurd h (by omega)⟩ (fun _ => rfl) (by omega) ?_; intro v' w' hown hgr; obtain ⟨q1, q2, q3, q4, q5, q6⟩ := HAP.out v' w' [] hown hgr; rw [List.append_nil, HL.out] at hown; obtain ⟨ao', c', hv', -⟩ := own_entsV0 hown HL.out; subst hv'; have y1 := q1.cell; have y2 := q1.frozen; have y3 := q2.cell; have y4 := q2.frozen; have Q2 : Hid (Boxed _ _ _ _) := q2; have Q5 : Hid (Below _ _ _) := q5; have Q6 : Hid (KeepsOthers _ _) := q6; clear q1 q2 q3 q4 q5 q6 hown hgr)
      refine ⟨Q5.out.setCell (p := ⟨w.heap.size, 0, none⟩) (Nat.le_refl _) _, (Q6.out.trans (KeepsOthers.setCell _ _ _)).from _, ?_, Q2.out.set _, H7.out.trans (Q5.out.setCell (p := ⟨w.heap.size, 0, none⟩) (Nat.le_refl _) _)⟩
      rw [List.map_append]
      exact bad_block HNO.out
    · have HIB : Hid (IsBlock xb l1) := hIB
      have HEV : Hid (EntsV w1 lo l1.length l1) := hEV
      have hl64 : l1.length ≤ 64 := (fit_len hIB.1).2
      have hl1p : 0 < l1.length := (fit_len hIB.1).1
      obtain ⟨lb, lf, hlo, -⟩ := hEV.2 hl1p
      subst hlo
      obtain ⟨m, HM⟩ : ∃ m, Hid (l1.length = m) := ⟨_, rfl⟩
      rw [HM.out] at HEV hl1 hl64 hl1p ⊢
      clear hIB hEV hl1 hlc
      obtain ⟨L2, HL2⟩ : ∃ L, Hid ((fl ++ l1).length = L) := ⟨_, rfl⟩
      have hL2 : L2 = L + m := by rw [← HL2.out, List.length_append, HL.out, HM.out]
      have HL2S : Hid (L2 = L + m) := hL2
      have hL2p : 0 < L2 := by omega
      have hL2b : (L2 : Int) ≤ 1000 := by omega
      clear hL2
      have HON : Hid (∀ c ∈ ls ++ [l1], Once c) := by
        intro c hc
        rcases List.mem_append.1 hc with h | h
        · exact H1.out c h
        · simp only [List.mem_singleton] at h; subst h; exact (once_of HIB.out).1
      have HMP : Hid ((ls ++ [l1]).map blockB = (pre ++ [(⟨xo, xn, xc, xb⟩ : SV)]).map SV.bs) := by
        show _ = _
        rw [List.map_append, List.map_append, H2.out, List.map_cons, List.map_nil, (once_of HIB.out).2]; rfl
      have HFF : Hid ((ls ++ [l1]).flatten = fl ++ l1) := by show _ = _; rw [List.flatten_append, HFL.out]; simp
      by_cases h64 : 64 < L2
      · have h64z : (64 : Int) < (L2 : Int) := by omega
        gi_wp2_with (gi_at_builtin; refine wpListIn_append_ents _ rfl (.tmp 15) (.tmp 16) rfl w.heap.size v L fl rfl K6.out KZ.out (some ⟨lb, lf, none⟩) m lc l1 rfl HEV.out (fun h => by cases h) (by omega) ?_; intro v' w' hown hgr; obtain ⟨q1, q2, q3, q4, q5, q6⟩ := HAP.out v' w' l1 hown hgr; rw [HL2.out] at hown; obtain ⟨g', c', hv', -⟩ := own_shapeE hown hL2p; subst hv'; have y1 := q1.cell; have y2 := q1.frozen; have y3 := q2.cell; have y4 := q2.frozen; have y5 := q3.cell; have Q2 : Hid (Boxed _ _ _ _) := q2; have Q3 : Hid (Boxed _ _ _ _) := q3; have Q4 : Hid (World.ownsRow _ _ _ _ _ _ _) := q4; have Q5 : Hid (Below _ _ _) := q5; have Q6 : Hid (KeepsOthers _ _) := q6; clear q1 q2 q3 q4 q5 q6 hown hgr)
        refine ⟨Q5.out.setCell (p := ⟨w.heap.size, 0, none⟩) (Nat.le_refl _) _, (Q6.out.trans (KeepsOthers.setCell _ _ _)).from _, ?_, Q2.out.set _, H7.out.trans (Q5.out.setCell (p := ⟨w.heap.size, 0, none⟩) (Nat.le_refl _) _)⟩
        rw [← HMP.out]
        exact bad_long HON.out (by rw [HFF.out, HL2.out]; exact h64)
      · have h64z : ¬ (64 : Int) < (L2 : Int) := by omega
        gi_wp2_with (gi_at_builtin; refine wpListIn_append_ents _ rfl (.tmp 15) (.tmp 16) rfl w.heap.size v L fl rfl K6.out KZ.out (some ⟨lb, lf, none⟩) m lc l1 rfl HEV.out (fun h => by cases h) (by omega) ?_; intro v' w' hown hgr; obtain ⟨q1, q2, q3, q4, q5, q6⟩ := HAP.out v' w' l1 hown hgr; rw [HL2.out] at hown; obtain ⟨g', c', hv', -⟩ := own_shapeE hown hL2p; subst hv'; have y1 := q1.cell; have y2 := q1.frozen; have y3 := q2.cell; have y4 := q2.frozen; have y5 := q3.cell; have Q2 : Hid (Boxed _ _ _ _) := q2; have Q3 : Hid (Boxed _ _ _ _) := q3; have Q4 : Hid (World.ownsRow _ _ _ _ _ _ _) := q4; have Q5 : Hid (Below _ _ _) := q5; have Q6 : Hid (KeepsOthers _ _) := q6; clear q1 q2 q3 q4 q5 q6 hown hgr)
        refine ⟨Q5.out, Q6.out.from _, ?_⟩
        refine ⟨ls ++ [l1], _, HON.out, HMP.out, by rw [HFF.out, HL2.out]; omega, Q2.out, Q3.out, ?_, H7.out.trans Q5.out⟩
        rw [HFF.out]
        exact Q4.out
  case done =>
    rintro D xs W hD ht ⟨ls, v, h1, h2, h3, h4, h5, h6, h7⟩ hK
    have HR : Hid (Reads a.bs ls.flatten) := reads_done h1 (by rw [h2, ht])
    have HAL : Hid (ls.flatten.all rightB = true) := all_once h1
    have H4 : Hid (Boxed W w.heap.size 22 (.slice none 0 0)) := h4
    have H6 : Hid (W.ownsRow w.heap.size 51 4 v ls.flatten.length (flatE ls.flatten)) := h6
    have H7 : Hid (Below w.heap.size w W) := h7
    have HKD : Hid (W.heap[D]? = some (.deferred (some []))) := hK
    have H3 : Hid (ls.flatten.length ≤ 64) := h3
    obtain ⟨ao', c', hv', -⟩ := own_entsV0 h6 rfl
    have y1 := h4.cell
    have y2 := h4.frozen
    have y3 := h5.cell
    obtain ⟨l, HL⟩ : ∃ l, Hid (ls.flatten = l) := ⟨_, rfl⟩
    rw [HL.out] at HR HAL H6 H3 hv'
    obtain ⟨L, HLL⟩ : ∃ L, Hid (l.length = L) := ⟨_, rfl⟩
    rw [HLL.out] at hv'
    subst hv'
    clear h1 h2 h3 h4 h5 h6 h7 hK hbel b0 b1 b2 ht
    go_wp2_with fail
    refine qm_ret ?_
    have hd : (W.setCell ⟨w.heap.size, 0, none⟩ (.slice ao' L c')).heap[D]? = some (.deferred (some [])) := (KeepsOthers.setCell W ⟨w.heap.size, 0, none⟩ _).same _ _ HKD.out rfl
    refine ⟨by simp, .inl ⟨_, _, rfl, run_takeDeferred hd, ?_⟩⟩
    have hbx := box_put (H4.out.set (.slice ao' L c')) (.deferred none) hd rfl
    refine ⟨_, results_box rfl _ _ w.heap.size _ rfl hbx, _, rfl, l, owns_put (H6.out.kept (grownBy_setCell' W _ _) (.inr (H4.out.not_row (by decide) H6.out).symm)) _ hd rfl, H3.out, HAL.out, HR.out, below_put (H7.out.setCell (p := ⟨w.heap.size, 0, none⟩) (Nat.le_refl _) _) D _ (by omega)⟩
  case stp =>
    rintro D xs W hD ht ⟨h1, h2, h3⟩ hK
    have HR : Hid (NoFile a.bs) := reads_bad h1 ht
    have H2 : Hid (Boxed W w.heap.size 22 (.slice none 0 0)) := h2
    have H3 : Hid (Below w.heap.size w W) := h3
    have HKD : Hid (W.heap[D]? = some (.deferred (some []))) := hK
    clear h1 h2 h3 hK hbel b0 b1 b2 ht
    refine wpIn_wide.2 ?_
    go_wp2_with fail
    refine qm_ret ?_
    refine ⟨by simp, .inl ⟨_, _, rfl, run_takeDeferred HKD.out, ?_⟩⟩
    have hbx := box_put H2.out (.deferred none) HKD.out rfl
    exact ⟨_, results_box rfl _ _ w.heap.size _ rfl hbx, _, rfl, [], World.ownsRow_nil _ _ _ _, by simp, rfl, reads_none HR.out [], below_put H3.out D _ (by omega)⟩
end Go.Proofs.YtcgjhopfdpaocaaDoor

/-
  What frame's All answers: a contract over this translation.
-/
import Derived.Test.YtaejcclepahefaaFrames
import Derived.RangeFuncBox
import Derived.Maps.AppendAt
import Derived.OwnWalkIn
namespace Go.Proofs.Ytaejcclepahefaa
open Go.RowKit Go.Shelf
attribute [local go_sem] Oper.semAt_some
theorem frames_new (a : SV) (w : World) : Calls Try.prog 74 #[.slice a.ao a.n a.c] w fun e w' => e = .returned (.func (.func 90) #[] #[.pointer (some ⟨w.heap.size, 0, none⟩)]) ∧ w' = w.alloc (.cells #[.slice a.ao a.n a.c] 28) := by
  have hmf : ∀ (fn : Fn) (first cap : Array Value) (w : World), (Instr.makeFunc fn first cap).run Try.prog w = .ok (.func fn first cap) w := fun _ _ _ _ => rfl
  go_enter Try.func74, Try.ntmps74
  go_wp2_with fail
  go_ret
  exact ⟨rfl, rfl⟩
/-- What may be done to a block that holds no cells, from B on. -/
def AbPut {β : Type} (B : Nat) (I : β → World → Prop) : Prop := ∀ (s : β) (W : World) (l : Nat) (o o' : Obj), I s W → B ≤ l → W.heap[l]? = some o → o.isCells = false → I s (W.putObj l o')
def AbNew {β : Type} (I : β → World → Prop) : Prop := ∀ (s : β) (W W' : World), I s W → Below W.heap.size W W' → I s W'
set_option maxHeartbeats 1000000 in
/-- A range over a function whose body never leaves: the function tells at its end what it handed out, and how that lies there. -/
theorem range_told {α : Type} {P : Program} {ps : Array Tmp} {assign body : Code} {g : Operand} {Q : Exit → Act → World → Prop} {a : Act} {W0 : World} {gf : Nat} {lb : Array Value}
    (hg : a.eval g = .func (.func gf) #[] lb) (eg : ∀ args w, (callFunc gf args).run P w = .ok (.enter gf args) w) (encs : α → Array Value) (hps : ∀ x, (encs x).size = ps.size)
    (I T : List α → World → Prop) (Kp : World → World → Prop) (Ok : List α → α → Prop) (a1 : α → Act)
    (hseq : ∀ (J : List α → World → Prop) (W : World), Below W0.heap.size W0 W → AbNew J →
      (∀ pre x W1, J pre W1 → Ok pre x → YieldAt Fence.wide 1 P (W0.heap.size + 1) (encs x) W1 fun e W' => e = .returned (.bool true) ∧ J (pre ++ [x]) W' ∧ Kp W1 W') → J [] W →
      CallsIn Fence.wide 2 P gf (#[.func (.yield (W0.heap.size + 1)) #[] #[]] ++ lb) W fun e W' => (∃ v, e = .returned v) ∧ ∃ xs, J xs W' ∧ T xs W')
    (hIn : AbNew I) (hIp : AbPut W0.heap.size I) (hTp : AbPut W0.heap.size T) (hKt : ∀ {A B C : World}, Kp A B → Kp B C → Kp A C)
    (hKp : ∀ (W : World) (l : Nat) (o o' : Obj), W0.heap.size ≤ l → W.heap[l]? = some o → o.isCells = false → Kp W (W.putObj l o')) (h0 : I [] W0)
    (hassign : ∀ (x : α) (W : World) (K : Act → World → Prop), K (a1 x) W → assign.wpIn (Fence.wide.inRound (W0.heap.size + 1)) 1 P (Exit.then K (fun _ _ _ => False)) { tmps := (ps.zip (encs x)).foldl (fun t (p, v) => t.setIfInBounds p v) a.tmps, defers := [] } W)
    (hbody : ∀ (pre : List α) (x : α) (W : World), I pre W → Ok pre x → body.wpIn (Fence.wide.inRound (W0.heap.size + 1)) 1 P (fun e _ W' => e = .normal ∧ I (pre ++ [x]) W' ∧ Kp W W' ∧ KeepsFrom W0.heap.size W W') (a1 x) W)
    (hdone : ∀ (D : Nat) (xs : List α) (W : World), W0.heap.size ≤ D → T xs W → I xs W → W.heap[D]? = some (.deferred (some [])) → Q .normal { a with defers := { target := .collected D, args := #[] } :: a.defers } W) :
    (Code.rangeFunc g ps assign body).wpIn Fence.wide 3 P Q a W0 := by
  refine wpIn_rangeFunc (fun fn _ => ?_)
  obtain ⟨L, hL⟩ : ∃ L : LoopState → Loop, L = fun st => { state := st, pending := none, fn := fn, tmps := a.tmps, params := ps, assign := assign, body := body, defers := W0.heap.size } := ⟨_, rfl⟩
  have hnew : Below W0.heap.size W0 ((W0.alloc (.deferred (some []))).alloc (.loop (L .ready))) := ((Below.refl _ W0).alloc (Nat.le_refl _) _).alloc (by simp) _
  obtain ⟨W1, hW1⟩ : ∃ W1, (W0.alloc (.deferred (some []))).alloc (.loop (L .ready)) = W1 := ⟨_, rfl⟩
  have hrec : W1.heap[W0.heap.size + 1]? = some (.loop (L .ready)) := by
    have := World.alloc_heap_new (W0.alloc (.deferred (some []))) (.loop (L .ready))
    rw [World.size_alloc, hW1] at this; exact this
  have hdef : W1.heap[W0.heap.size]? = some (.deferred (some [])) := by
    rw [← hW1]; exact (Below.heap_alloc _ _ _ (by simp)).trans (World.alloc_heap_new W0 _)
  rw [hW1] at hnew
  obtain ⟨J, hJ⟩ : ∃ J : List α → World → Prop, J = fun pre W => I pre W ∧ W.heap[W0.heap.size + 1]? = some (.loop (L .ready)) ∧ W.heap[W0.heap.size]? = some (.deferred (some [])) := ⟨_, rfl⟩
  have call := hseq J W1 hnew (by
      rw [hJ]
      rintro pre W W' ⟨h1, h2, h3⟩ hb
      exact ⟨hIn _ _ _ h1 hb, (hb.block _ (Array.getElem?_eq_some_iff.1 h2).1).trans h2, (hb.block _ (Array.getElem?_eq_some_iff.1 h3).1).trans h3⟩) (by
      rw [hJ]
      rintro pre x W ⟨h1, h2, h3⟩ hok
      have hy := run_yield (P := P) (args := encs x) h2 (by rw [hL]; exact hps x)
      rw [hL] at hy
      have lt := (Array.getElem?_eq_some_iff.1 h2).1
      have busy : (W.putObj (W0.heap.size + 1) (.loop (L .busy))).heap[W0.heap.size + 1]? = some (.loop (L .busy)) := World.putObj_heap_same lt
      have defs : (W.putObj (W0.heap.size + 1) (.loop (L .busy))).heap[W0.heap.size]? = some (.deferred (some [])) := (World.putObj_heap_other (by omega)).trans h3
      have begins : (Instr.beginRound (W0.heap.size + 1)).run P W = .ok () (W.putObj (W0.heap.size + 1) (.loop (L .busy))) := by
        have := run_beginRound (P := P) h2 (by rw [hL]); rw [hL] at this ⊢; exact this
      refine ⟨fn, _, assign, body, hy, roundIn_of_wpIn trivial (hassign x W _ ⟨_, begins, wpIn_mono (hbody pre x _ (hIp _ _ _ _ _ h1 (by omega) h2 rfl) hok) ?_⟩)⟩
      rintro e a3 W3 ⟨rfl, i3, k3, f3⟩
      have b3 := f3.same _ _ (by omega) busy rfl
      have d3 := f3.same _ _ (by omega) defs rfl
      have ends : (Instr.endRound (W0.heap.size + 1) none).run P W3 = .ok (.bool true) (W3.putObj (W0.heap.size + 1) (.loop (L .ready))) := by
        have := run_endRound (P := P) none b3; rw [hL] at this ⊢; exact this
      exact ⟨_, _, ends, rfl, ⟨hIp _ _ _ _ _ i3 (by omega) b3 rfl, World.putObj_heap_same (Array.getElem?_eq_some_iff.1 b3).1, (World.putObj_heap_other (by omega)).trans d3⟩, hKt (hKt (hKp _ _ _ _ (by omega) h2 rfl) k3) (hKp _ _ _ _ (by omega) b3 rfl)⟩) (by
      rw [hJ]
      exact ⟨hIn _ _ _ h0 hnew, hrec, hdef⟩)
  refine ⟨W0.heap.size + 1, [{ target := .collected W0.heap.size, args := #[] }], W1, { target := .fn (.func gf) lb, args := #[.func (.yield (W0.heap.size + 1)) #[] #[]] }, W1, gf, #[.func (.yield (W0.heap.size + 1)) #[] #[]] ++ lb, W1, ?_, ?_, ?_, ?_, ?_, ?_⟩
  · rw [← hW1, hL]; exact run_enterLoop_outer _ _ _ _ _
  · simp only [resolve, hg]; simp [go_sem]
  · intro f' _; exact True.intro
  · simp [invoke, go_sem, eg]
  · intro _; decide
  · refine CallsIn.mono call ?_
    rw [hJ]
    rintro e W2 ⟨⟨v, rfl⟩, xs, ⟨i2, r2, d2⟩, t2⟩
    have out := run_endLoop (P := P) r2 (by rw [hL]; simp)
    rw [hL] at out r2
    exact ⟨none, _, out, hdone _ xs _ (Nat.le_refl _) (hTp _ _ _ _ _ t2 (by omega) r2 rfl) (hIp _ _ _ _ _ i2 (by omega) r2 rfl) ((World.putObj_heap_other (by omega)).trans d2)⟩
/-- Slices as cells. -/
def svC (xs : List SV) : List Value := xs.map fun x => .slice x.ao x.n x.c
def sumL (xs : List SV) : Nat := (xs.map fun x => 8 + x.n).sum
theorem svC_snoc (xs : List SV) (x : SV) : svC (xs ++ [x]) = svC xs ++ [.slice x.ao x.n x.c] := by simp [svC]
theorem sumL_snoc (xs : List SV) (x : SV) : sumL (xs ++ [x]) = sumL xs + (8 + x.n) := by simp [sumL]
theorem info28 : (Try.prog.info? 28).map (fun i => (i.zero, i.size, i.bytes)) = some (some (.slice none 0 0), 1, 24) := by kernel_rfl
/-- What All's own variables hold between two rounds. -/
def AllI (w : World) (pre : List SV) (W : World) : Prop :=
  (∃ v, Boxed W w.heap.size 51 v ∧ W.ownsRow w.heap.size 28 1 v pre.length (svC pre)) ∧ Boxed W (w.heap.size + 1) 3 (.int .i64 (sumL pre : Int)) ∧ sumL pre ≤ pre.length * 65544 ∧ Below w.heap.size w W
theorem allI_new (w : World) : AbNew (AllI w) := by
  rintro pre W W' ⟨⟨v, h1, h2⟩, h3, h4, h5⟩ hb
  exact ⟨⟨v, (hb.block _ h1.lt).trans h1, own_below h2 hb (Nat.le_refl _)⟩, (hb.block _ h3.lt).trans h3, h4, h5.trans (hb.mono h5.size)⟩
theorem owns_put {W : World} {base : Nat} {e : TypeId} {size : Nat} {v : Value} {k : Nat} {xs : List Value} (h : W.ownsRow base e size v k xs) {l : Nat} {o : Obj} (o' : Obj) (hl : W.heap[l]? = some o) (ho : o.isCells = false) : (W.putObj l o').ownsRow base e size v k xs := ownsRow_putObj h o' hl ho
theorem box_put {W : World} {B : Nat} {t : TypeId} {v : Value} (h : Boxed W B t v) {l : Nat} {o : Obj} (o' : Obj) (hl : W.heap[l]? = some o) (ho : o.isCells = false) : Boxed (W.putObj l o') B t v := by
  have hne : B ≠ l := fun e => by
    subst e
    have h2 : W.heap[B]? = some (.cells #[v] t (0, 0)) := h
    rw [hl] at h2; cases h2; cases ho
  exact (World.putObj_heap_other hne).trans h
theorem below_put {n0 : Nat} {w W : World} (h : Below n0 w W) (l : Nat) (o' : Obj) (hl : n0 ≤ l) : Below n0 w (W.putObj l o') :=
  h.trans ⟨rfl, rfl, rfl, by simp, fun k hk => World.putObj_heap_other (by omega)⟩
theorem allI_put (w : World) (B : Nat) (hB : w.heap.size ≤ B) : AbPut B (AllI w) := by
  rintro pre W l o o' ⟨⟨v, h1, h2⟩, h3, h4, h5⟩ hl ho hc
  exact ⟨⟨v, box_put h1 o' ho hc, owns_put h2 o' ho hc⟩, box_put h3 o' ho hc, h4, below_put h5 l o' (by omega)⟩
theorem kb_put {n0 : Nat} (W : World) (l : Nat) (o o' : Obj) (hl : n0 ≤ l) (ho : W.heap[l]? = some o) (hc : o.isCells = false) : KB n0 W (W.putObj l o') := by
  refine ⟨below_put (Below.refl _ _) l o' hl, fun k cur fr hk => ?_⟩
  have hne : k ≠ l := fun e => by subst e; rw [ho] at hk; cases hk; cases hc
  exact (World.putObj_heap_other hne).trans hk
theorem heap_set_far (W : World) (b k : Nat) (v : Value) (h : k ≠ b) : (W.setCell ⟨b, 0, none⟩ v).heap[k]? = W.heap[k]? := Below.heap_setCell W ⟨b, 0, none⟩ v k h
theorem kb_set {n0 : Nat} {W : World} {B : Nat} {t : TypeId} {u : Value} (h : Boxed W B t u) (ht : t ≠ 5) (hB : n0 ≤ B) (v : Value) : KB n0 W (W.setCell ⟨B, 0, none⟩ v) := by
  refine ⟨(Below.refl _ _).setCell (p := ⟨B, 0, none⟩) hB v, fun k cur fr hk => ?_⟩
  have hne : k ≠ B := fun e => by
    subst e
    have h2 : W.heap[k]? = some (.cells #[u] t (0, 0)) := h
    rw [h2] at hk; cases hk; exact ht rfl
  exact (heap_set_far W B k v hne).trans hk
theorem kb_grow {n0 : Nat} {W w1 : World} {v : Value} {k : Nat} {xs : List Value} {tmp : Obj} (hrow : W.ownsRow n0 28 1 v k xs) (hn : n0 ≤ W.heap.size) (hg : (W.alloc tmp).grownBy w1 v.ownBlock) : KB n0 W w1 := by
  have hob : ∀ j, v.ownBlock = some j → n0 ≤ j ∧ ∃ cur, W.heap[j]? = some (Obj.cells cur 28 (0, 0)) := fun j ej => by
    rcases hrow.2 with ⟨rfl, _⟩ | ⟨g, cap, cur, rfl, hb, hgb, _⟩
    · simp [Value.ownBlock] at ej
    · obtain rfl : g = j := by simpa [Value.ownBlock] using ej
      exact ⟨hb, cur, hgb⟩
  refine ⟨((Below.refl n0 W).alloc hn tmp).grown hg (by simp; omega) fun j ej => (hob j ej).1, fun i cur fr hi => ?_⟩
  have hlt := (Array.getElem?_eq_some_iff.1 hi).1
  have h2 : (W.alloc tmp).heap[i]? = some (Obj.cells cur 5 fr) := (Below.heap_alloc W tmp i hlt).trans hi
  refine (hg.block i (by simp; omega) fun e => ?_).trans h2
  obtain ⟨-, cur2, h3⟩ := hob i e.symm
  rw [hi] at h3; cases h3
theorem box_far {n0 B B2 : Nat} {t : TypeId} {u v v' : Value} {W w1 : World} {k : Nat} {xs : List Value} {tmp : Obj} (h : Boxed W B t u) (ht : t ≠ 28) (hne : B ≠ B2) (hrow : W.ownsRow n0 28 1 v k xs) (hg : (W.alloc tmp).grownBy w1 v.ownBlock) : Boxed (w1.setCell ⟨B2, 0, none⟩ v') B t u :=
  (heap_set_far w1 B2 B v' hne).trans ((h.alloc tmp).kept hg (h.not_row ht hrow))
theorem sumL_told {n0 : Nat} {W : World} : ∀ {xs : List SV}, Told n0 W xs → sumL xs = ((xs.map SV.bs).map fun b => 8 + b.length).sum
  | [], _ => rfl
  | x :: t, h => by
    have h1 := (h.1 x (by simp)).1
    rw [cellsOf_length] at h1
    have h2 := sumL_told (xs := t) ⟨fun y hy => h.1 y (by simp [hy]), (List.pairwise_cons.1 h.2).2⟩
    unfold sumL at h2 ⊢
    simp only [List.map_cons, List.sum_cons, h2]
    omega
set_option maxRecDepth 100000 in
set_option maxHeartbeats 2000000 in
theorem all_any (a : SV) (w : World) (h1 : Bytes w a.ao a.n a.bs) (f1 : a.fine) (hlow : ∀ x, a.ao = some x → x.block < w.heap.size) (ha : a.n ≤ 1000000000) :
    Calls Try.prog 48 #[.slice a.ao a.n a.c] w fun e w' => ∃ (v : Value) (xs : List SV), e = .returned (.tuple #[v, .int .i64 (endB a.bs : Int), .int .i64 (restE a.bs : Int)]) ∧ w'.ownsRow w.heap.size 28 1 v xs.length (svC xs) ∧ Told w.heap.size w' xs ∧ xs.map SV.bs = framesB a.bs ∧ Below w.heap.size w w' := by
  obtain ⟨i0, hi, hz0, hz1, hz2⟩ := info_parts info28
  refine (callsIn_wide (n := 3)).1 ?_
  refine callsIn_of_wp_marks Try.func48 rfl trivial ?_ rfl
  simp only [Try.ntmps48, List.size_toArray, List.length_cons, List.length_nil, Nat.reduceAdd, Nat.reduceSub, Array.replicate_succ, Array.replicate_zero, List.push_toArray, List.append_toArray, List.nil_append, List.cons_append]
  gi_wp2
  refine ⟨trivial, (callsIn_wide.2 (frames_new a _)).mono ?_⟩
  rintro e w1 ⟨rfl, rfl⟩
  gi_wp2
  obtain ⟨W0, hW0⟩ : ∃ W0, ((w.alloc (Obj.cells #[Value.slice none 0 0] 51)).alloc (Obj.cells #[Value.int IntKind.i64 0] 3)).alloc (Obj.cells #[Value.slice a.ao a.n a.c] 28) = W0 := ⟨_, rfl⟩
  have hsz : W0.heap.size = w.heap.size + 3 := by rw [← hW0]; simp
  have hbel : Below w.heap.size w W0 := by rw [← hW0]; exact ((((Below.refl _ w).alloc (Nat.le_refl _) _).alloc (by simp) _).alloc (by simp; omega) _)
  have b0 : Boxed W0 w.heap.size 51 (.slice none 0 0) := by rw [← hW0]; exact ((Boxed.new w 51 _).alloc _).alloc _
  have b1 : Boxed W0 (w.heap.size + 1) 3 (.int .i64 0) := by
    have := (Boxed.new (w.alloc (Obj.cells #[Value.slice none 0 0] 51)) 3 (.int .i64 0)).alloc (Obj.cells #[Value.slice a.ao a.n a.c] 28)
    rw [World.size_alloc, hW0] at this; exact this
  have b2 : Boxed W0 (w.heap.size + 1 + 1) 28 (.slice a.ao a.n a.c) := by
    have := Boxed.new ((w.alloc (Obj.cells #[Value.slice none 0 0] 51)).alloc (Obj.cells #[Value.int IntKind.i64 0] 3)) 28 (.slice a.ao a.n a.c)
    rw [World.size_alloc, World.size_alloc, hW0] at this; exact this
  have few := frames_few a.bs
  have hal := h1.1
  rw [hW0]
  refine range_told (gf := 90) (lb := #[.pointer (some ⟨w.heap.size + 1 + 1, 0, none⟩)]) rfl (enters_of Try.func90 (by kernel_rfl) rfl) (fun x : SV => #[.slice x.ao x.n x.c, .int .i64 (8 + (x.n : Int))]) (fun _ => rfl)
    (AllI w) (fun xs W => Told w.heap.size W xs ∧ xs.map SV.bs = framesB a.bs) (KB w.heap.size) (fun pre x => pre.length < (framesB a.bs).length ∧ x.n ≤ 65536)
    (fun x => { tmps := #[Value.slice a.ao a.n a.c, undef, Value.slice none 0 0, Value.int IntKind.i64 0, Value.int IntKind.i64 0, Value.pointer (some { block := w.heap.size, off := 0 }), Value.pointer (some { block := w.heap.size + 1, off := 0 }), .slice x.ao x.n x.c, .int .i64 (8 + (x.n : Int)), undef, undef, undef, Value.slice a.ao a.n a.c, Value.func (Fn.func 90) #[] #[Value.pointer (some { block := w.heap.size + 1 + 1, off := 0 })], .slice x.ao x.n x.c, .int .i64 (8 + (x.n : Int)), undef, undef, undef, undef, undef, undef, undef, undef, undef, undef, undef, undef, undef, undef, undef, undef, undef, undef, undef, undef, undef, undef, undef, undef], defers := [] })
    ?seq (allI_new w) (allI_put w _ (by omega)) ?tput (fun h k => h.trans k) (fun W l o o' hl ho hc => kb_put W l o o' (by omega) ho hc) ?start ?assign ?body ?done
  case seq =>
    intro J W hW hJ hY h0
    refine (frames_in 2 (W0.heap.size + 1) (w.heap.size + 1 + 1) w.heap.size (by omega) a J hJ (fun pre x W1 hj hp hx => hY pre x W1 hj ⟨hp, hx⟩) W ?_ (bytes_kept h1 (hbel.trans (hW.mono (by omega))) (Nat.le_refl _)) f1 hlow (Nat.le_trans hbel.size hW.size) h0).mono ?_
    · have : Boxed W (w.heap.size + 1 + 1) 28 (.slice a.ao a.n a.c) := (hW.block _ b2.lt).trans b2
      exact this.cell
    · rintro e W' ⟨hv, xs, hj, ht, hx, -⟩
      exact ⟨hv, xs, hj, ht, hx⟩
  case tput =>
    rintro xs W l o o' ⟨ht, hx⟩ hl ho hc
    exact ⟨⟨fun x hx => owns_put (ht.1 x hx) o' ho hc, ht.2⟩, hx⟩
  case start => exact ⟨⟨_, b0, World.ownsRow_nil _ _ _ _⟩, b1, by simp [sumL], hbel⟩
  case assign =>
    intro x W K hK
    gi_wp2
    exact hK
  case body =>
    rintro pre x W ⟨⟨v, hv, hrow⟩, he, hsum, hB⟩ ⟨hp, hx⟩
    have hc := hv.cell
    have hf := hv.frozen
    have hle : pre.length + 1 ≤ maxLen := by unfold maxLen; omega
    have hle2 : (pre.length + 1) * 24 ≤ 140737488355328 := by omega
    have hle3 : sumL pre ≤ 9000000000000000000 := by omega
    have HE : Hid (Boxed W (w.heap.size + 1) 3 (.int .i64 (sumL pre : Int))) := he
    have HV : Hid (Boxed W w.heap.size 51 v) := hv
    have HROW : Hid (W.ownsRow w.heap.size 28 1 v pre.length (svC pre)) := hrow
    have HB : Hid (Below w.heap.size w W) := hB
    have hwadd : wrap64 ((sumL pre : Int) + (8 + (x.n : Int))) = ((sumL pre + (8 + x.n) : Nat) : Int) := by unfold wrap64; omega
    clear he hv hrow hB few hal h1 f1 hlow ha hbel b0 b1 b2 hW0
    gi_wp2_with (gi_at_builtin; refine wpListIn_append_own _ rfl _ _ 51 rfl w.heap.size 28 i0 (.slice none 0 0) 1 24 Try.underlying51 hi hz0 hz1 hz2 rfl (by decide) _ _ _ rfl (HROW.out.alloc _) ⟨W.heap.size, 0, none⟩ 1 1 [.slice x.ao x.n x.c] rfl rfl (cell_one_new _ _ _) (by simp [Value.oneCell']) hle hle2 (by have := HB.out.size; simp; omega) ?_; intro v' w1 hown' hgrow _; obtain ⟨g', cap', rfl⟩ := ownsRow_succ hown'; obtain ⟨hv1, hv2, hr2, hk2, hb2⟩ := HV.out.appended (by decide) HROW.out HB.out.size (Nat.le_refl _) hown' hgrow; have hc1 := hv1.cell; have hf1 := hv1.frozen; have he1 := box_far (v' := .slice (some ⟨g', 0, none⟩) (pre.length + 1) cap') (B2 := w.heap.size) HE.out (by decide) (by omega) HROW.out hgrow; have hc2 := he1.cell; have hf2 := he1.frozen; have HKG : Hid (KB w.heap.size W w1) := kb_grow HROW.out HB.out.size hgrow; have HR2 : Hid _ := hr2; have HV2 : Hid _ := hv2; have HV1 : Hid (Boxed w1 w.heap.size 51 v) := hv1; have HE1 : Hid (Boxed (w1.setCell ⟨w.heap.size, 0, none⟩ (.slice (some ⟨g', 0, none⟩) (pre.length + 1) cap')) (w.heap.size + 1) 3 (.int .i64 (sumL pre : Int))) := he1; have HK2 : Hid _ := hk2; clear hr2 hv2 hv1 he1 hk2 hb2 hown' hgrow)
    have e1 : (↑(sumL pre) + (8 + ↑x.n) : Int) = ((sumL (pre ++ [x]) : Nat) : Int) := by rw [sumL_snoc]; omega
    refine ⟨⟨⟨.slice (some ⟨g', 0, none⟩) (pre.length + 1) cap', (heap_set_far _ _ _ _ (by omega)).trans HV2.out, ?_⟩, ?_, ?_, ?_⟩, ?_, ?_⟩
    · have h5 := World.ownsRow.kept HR2.out (grownBy_setCell' _ (w.heap.size + 1) (Value.int IntKind.i64 (↑(sumL pre) + (8 + ↑x.n)))) (.inr (HE1.out.not_row (by decide) HR2.out).symm)
      rw [List.length_append, svC_snoc]; exact h5
    · rw [← e1]; exact HE1.out.set _
    · rw [sumL_snoc, List.length_append]; simp only [List.length_cons, List.length_nil]; omega
    · exact HB.out.trans ((HKG.out.trans (kb_set HV1.out (by decide) (Nat.le_refl _) _)).trans (kb_set HE1.out (by decide) (by omega) _)).bel
    · exact (HKG.out.trans (kb_set HV1.out (by decide) (Nat.le_refl _) _)).trans (kb_set HE1.out (by decide) (by omega) _)
    · exact (KeepsOthers.trans HK2.out (KeepsOthers.setCell _ _ _)).from _
  case done =>
    rintro D xs W hD ⟨ht, hx⟩ ⟨⟨v, hv, hrow⟩, he, hsum, hB⟩ hK
    have hend : sumL xs = endB a.bs := by rw [sumL_told ht, hx]; exact (endB_sum _ a.bs (Nat.le_refl _)).1.symm
    rw [hend] at he
    have hel : endB a.bs ≤ a.n := by rw [← hal]; exact (endB_sum _ a.bs (Nat.le_refl _)).2.1
    have hc := hv.cell
    have hc2 := he.cell
    have HROW : Hid (W.ownsRow w.heap.size 28 1 v xs.length (svC xs)) := hrow
    have HTO : Hid (Told w.heap.size W xs) := ht
    have HX : Hid (xs.map SV.bs = framesB a.bs) := hx
    have HB : Hid (Below w.heap.size w W) := hB
    have HKD : Hid (W.heap[D]? = some (.deferred (some []))) := hK
    obtain ⟨E, HEE⟩ : ∃ E, Hid (endB a.bs = E) := ⟨_, rfl⟩
    have HRE : Hid (restE a.bs = if E = a.n then 0 else (nextF (a.bs.drop E)).2.2) := by show _ = _; unfold restE; rw [HEE.out, hal]
    rw [HEE.out] at he hc2 hel
    have hput : ∀ {W2 : World}, W2.heap[D]? = some (.deferred (some [])) → Below W.heap.size W W2 → (W2.putObj D (.deferred none)).ownsRow w.heap.size 28 1 v xs.length (svC xs) ∧ Told w.heap.size (W2.putObj D (.deferred none)) xs ∧ Below w.heap.size w (W2.putObj D (.deferred none)) := fun {W2} h2 hb => by
      have k2 : KB w.heap.size W W2 := KB.of_below hb (Nat.le_refl _) HB.out.size
      exact ⟨owns_put (own_below HROW.out hb (Nat.le_refl _)) _ h2 rfl, ⟨fun x hx => owns_put ((HTO.out.kb k2).1 x hx) _ h2 rfl, HTO.out.2⟩, below_put (HB.out.trans (hb.mono HB.out.size)) D _ (by omega)⟩
    have HPUT : Hid _ := @hput
    clear hput hrow ht hx hB hK hv hsum hend hbel b0 b1 b2 hW0 he few
    by_cases hEn : E = a.n
    · have HR0 : Hid (restE a.bs = 0) := by show _ = _; rw [HRE.out, if_pos hEn]
      have hEi : (E : Int) = (a.n : Int) := by omega
      clear HRE
      gi_wp2
      gi_region
      all_goals gi_wp2
      have hd : W.drew.heap[D]? = some (.deferred (some [])) := HKD.out
      have h6 := HPUT.out hd (Below.drew (Below.refl _ _))
      refine ⟨by simp, .inl ⟨_, _, rfl, run_takeDeferred hd, ?_⟩⟩
      exact ⟨_, results_tmp3 rfl _ _ _, v, xs, by rw [HEE.out, HR0.out, hEn]; rfl, h6.1, h6.2.1, HX.out, h6.2.2⟩
    · have HR0 : Hid (restE a.bs = (nextF (a.bs.drop E)).2.2) := by show _ = _; rw [HRE.out, if_neg hEn]
      have hEi : ¬ (E : Int) = (a.n : Int) := by omega
      have hE0 : (0 : Int) ≤ (E : Int) := by omega
      have hE1 : (E : Int) ≤ (a.n : Int) := by omega
      have hE2 : decide ((E : Int) = (a.n : Int)) = false := by simp; omega
      obtain ⟨b, off, hao, -⟩ := bytes_at h1 (by omega)
      have hnc := f1.2.1
      have hc9 := f1.2.2
      have hE3 : ¬ a.c = E := by omega
      have HN : Hid (∀ W', Below w.heap.size w W' → Calls Try.prog 46 #[.slice (some ⟨b, off + E, none⟩) (a.n - E) (a.c - E)] W' fun e w' => NextR (a.bs.drop E) W'.heap.size e w' ∧ Below W'.heap.size W' w') := fun W' hb => by
        have h3 := bytes_kept h1 hb (Nat.le_refl _)
        rw [hao] at h3
        exact next_any ⟨some ⟨b, off + E, none⟩, a.n - E, a.c - E, a.bs.drop E⟩ W' (bytes_drop h3 E) ⟨(fun h => by cases h), (by show a.n - E ≤ a.c - E; omega), (by show a.c - E ≤ _; omega)⟩
      clear HRE h1 f1
      rw [hao]
      gi_wp2
      refine ⟨trivial, (callsIn_wide.2 (HN.out W HB.out)).mono ?_⟩
      rintro e w2 ⟨⟨v2, rfl, -⟩, hb2⟩
      have hc3 : w2.cell? ⟨w.heap.size, 0, none⟩ = some v := by
        rw [World.cell?_of_block (hb2.block _ (World.block_lt_of_cell? W _ hc))]; exact hc
      have hc4 : w2.cell? ⟨w.heap.size + 1, 0, none⟩ = some (.int .i64 (E : Int)) := by
        rw [World.cell?_of_block (hb2.block _ (World.block_lt_of_cell? W _ hc2))]; exact hc2
      have hd : w2.drew.heap[D]? = some (.deferred (some [])) := (hb2.block _ (Array.getElem?_eq_some_iff.1 HKD.out).1).trans HKD.out
      have h6 := HPUT.out hd (Below.drew hb2)
      have HH6 : Hid _ := h6
      have HHD : Hid _ := hd
      obtain ⟨q, HQ⟩ : ∃ q, Hid ((nextF (a.bs.drop E)).2.2 = q) := ⟨_, rfl⟩
      obtain ⟨q1, HQ1⟩ : ∃ q, Hid ((nextF (a.bs.drop E)).2.1 = q) := ⟨_, rfl⟩
      rw [HQ.out] at HR0
      rw [HQ.out, HQ1.out]
      clear h6 hd hb2 HPUT HN hc hc2 HQ HQ1
      gi_wp2
      gi_region
      all_goals gi_wp2
      refine ⟨by simp, .inl ⟨_, _, rfl, run_takeDeferred HHD.out, ?_⟩⟩
      exact ⟨_, results_tmp3 rfl _ _ _, v, xs, by rw [HEE.out, HR0.out]; rfl, HH6.out.1, HH6.out.2.1, HX.out, HH6.out.2.2⟩
end Go.Proofs.Ytaejcclepahefaa

/-
  A disk by itself, without memory: its files, its pieces, and what each call does to them.
-/
import Derived.Test.YtomeghngjiaofaaDskC
namespace Go.Proofs.Ytomeghngjiaofaa
open Go.RowKit
structure Fl where
  id : Nat
  nm : ByteArray
  body : List UInt8
structure Dk where
  cap : Nat
  L : List Fl
  pcs : List (Nat × Nat)
  down : Bool
  left : Int
  keep : Int
  next : Nat
def usedL (L : List Fl) : Nat := (L.map fun x => x.body.length).sum
def findL (L : List Fl) (s : ByteArray) : Option Fl := L.find? fun x => decide (x.nm = s)
def onId (L : List Fl) (i : Nat) (F : Fl → Fl) : List Fl := L.map fun x => if x.id = i then F x else x
def outId (L : List Fl) (i : Nat) : List Fl := L.filter fun x => decide (x.id ≠ i)
def cutF (c : Nat) (x : Fl) : Fl := ⟨x.id, x.nm, x.body.take (x.body.length - c)⟩
def putF (b : List UInt8) (x : Fl) : Fl := ⟨x.id, x.nm, x.body ++ b⟩
def nameF (s : ByteArray) (x : Fl) : Fl := ⟨x.id, s, x.body⟩
def keepI (k : Int) (c : Nat) : Nat := (min (max k 0) (c : Int)).toNat
def crashL : List Fl → List (Nat × Nat) → Int → List Fl
  | L, [], _ => L
  | L, p :: ps, k => crashL (onId L p.1 (cutF (p.2 - keepI k p.2))) ps (k - (keepI k p.2 : Int))
def forgetL (l : List (Nat × Nat)) (i : Nat) : List (Nat × Nat) := l.filter fun p => decide (p.1 ≠ i)
def owed (l : List (Nat × Nat)) (i : Nat) : Nat := ((l.filter fun p => decide (p.1 = i)).map fun p => p.2).sum
def Dk.crash (A : Dk) (k : Int) : Dk := if A.down then A else ⟨A.cap, crashL A.L A.pcs k, [], true, 0, 0, A.next⟩
def Dk.arm (A : Dk) (n k : Int) : Dk := ⟨A.cap, A.L, A.pcs, A.down, n, k, A.next⟩
def Dk.start (A : Dk) : Dk := ⟨A.cap, A.L, A.pcs, false, A.left, A.keep, A.next⟩
/-- What each call that writes does first. -/
def Dk.pre (A : Dk) : Dk := if A.down = false ∧ 0 < A.left then (if A.left = 1 then A.crash A.keep else A.arm (A.left - 1) A.keep) else A
def Dk.create (A : Dk) (s : ByteArray) : Int × Dk :=
  if chk A.pre.down [s] ≠ 0 then (chk A.pre.down [s], A.pre)
  else if (findL A.pre.L s).isSome then (7, A.pre)
  else (0, ⟨A.pre.cap, A.pre.L ++ [⟨A.pre.next, s, []⟩], A.pre.pcs, A.pre.down, A.pre.left, A.pre.keep, A.pre.next + 1⟩)
def Dk.putIn (A : Dk) (i : Nat) (b : List UInt8) : Int × Dk :=
  if A.cap < usedL A.L + b.length then (4, A)
  else if b.length = 0 then (0, A)
  else (0, ⟨A.cap, onId A.L i (putF b), A.pcs ++ [(i, b.length)], A.down, A.left, A.keep, A.next⟩)
def Dk.append (A : Dk) (s : ByteArray) (b : List UInt8) : Int × Dk :=
  if chk A.pre.down [s] ≠ 0 then (chk A.pre.down [s], A.pre)
  else match findL A.pre.L s with
    | none => (5, A.pre)
    | some x => A.pre.putIn x.id b
def Dk.forget (A : Dk) (i : Nat) : Dk := ⟨A.cap, A.L, forgetL A.pcs i, A.down, A.left, A.keep, A.next⟩
def Dk.drop (A : Dk) (i : Nat) : Dk := ⟨A.cap, outId A.L i, forgetL A.pcs i, A.down, A.left, A.keep, A.next⟩
def Dk.sync (A : Dk) (s : ByteArray) : Int × Dk :=
  if chk A.pre.down [s] ≠ 0 then (chk A.pre.down [s], A.pre)
  else match findL A.pre.L s with
    | none => (5, A.pre)
    | some x => (0, A.pre.forget x.id)
def Dk.delete (A : Dk) (s : ByteArray) : Int × Dk :=
  if chk A.pre.down [s] ≠ 0 then (chk A.pre.down [s], A.pre)
  else match findL A.pre.L s with
    | none => (5, A.pre)
    | some x => (0, A.pre.drop x.id)
def Dk.named (A : Dk) (i : Nat) (s : ByteArray) : Dk := ⟨A.cap, onId A.L i (nameF s), A.pcs, A.down, A.left, A.keep, A.next⟩
def Dk.over (A : Dk) (i : Nat) (t : ByteArray) : Dk :=
  match findL A.L t with
  | none => A
  | some y => if y.id = i then A else A.drop y.id
def Dk.rename (A : Dk) (s t : ByteArray) : Int × Dk :=
  if chk A.pre.down [s, t] ≠ 0 then (chk A.pre.down [s, t], A.pre)
  else match findL A.pre.L s with
    | none => (5, A.pre)
    | some x => (0, (A.pre.over x.id t).named x.id t)
def Dk.read (A : Dk) (s : ByteArray) : List UInt8 × Int :=
  if chk A.down [s] ≠ 0 then ([], chk A.down [s])
  else match findL A.L s with
    | none => ([], 5)
    | some x => (x.body, 0)
structure Dk.wf (A : Dk) : Prop where
  ids : (A.L.map Fl.id).Nodup
  nms : (A.L.map Fl.nm).Nodup
  good : ∀ x ∈ A.L, badName x.nm = false
  lt : ∀ x ∈ A.L, x.id < A.next
  live : ∀ p ∈ A.pcs, ∃ x ∈ A.L, x.id = p.1
  enough : ∀ x ∈ A.L, owed A.pcs x.id ≤ x.body.length
  fits : usedL A.L ≤ A.cap
  capI : A.cap ≤ 9223372036854775807
  leftI : -9223372036854775808 ≤ A.left ∧ A.left ≤ 9223372036854775807
  keepB : -9223372036854775808 ≤ A.keep ∧ A.keep ≤ 9223372036854775807
def Dk.new (c : Nat) : Dk := ⟨c, [], [], false, 0, 0, 0⟩
theorem findL_some {L : List Fl} {s : ByteArray} {x : Fl} (h : findL L s = some x) : x ∈ L ∧ x.nm = s := by
  refine ⟨List.mem_of_find?_eq_some h, ?_⟩
  have := List.find?_some h
  simpa using this
theorem findL_none {L : List Fl} {s : ByteArray} (h : findL L s = none) : ∀ x ∈ L, x.nm ≠ s := by
  intro x hx
  have := List.find?_eq_none.1 h x hx
  simpa using this
theorem nodup_at {α β : Type} {L : List α} {F : α → β} (h : (L.map F).Nodup) {x y : α} (hx : x ∈ L) (hy : y ∈ L) (e : F x = F y) : x = y := by
  induction L with
  | nil => cases hx
  | cons a l ih =>
    rw [List.map_cons, List.nodup_cons] at h
    rcases List.mem_cons.1 hx with rfl | hx1
    · rcases List.mem_cons.1 hy with rfl | hy1
      · rfl
      · exact absurd (List.mem_map.2 ⟨y, hy1, e.symm⟩) h.1
    · rcases List.mem_cons.1 hy with rfl | hy1
      · exact absurd (List.mem_map.2 ⟨x, hx1, e⟩) h.1
      · exact ih h.2 hx1 hy1
theorem findL_of {L : List Fl} {x : Fl} (hn : (L.map Fl.nm).Nodup) (hx : x ∈ L) : findL L x.nm = some x := by
  cases h : findL L x.nm with
  | none => exact absurd rfl (findL_none h x hx)
  | some y =>
    obtain ⟨h1, h2⟩ := findL_some h
    rw [nodup_at hn h1 hx h2]
theorem mem_onId {L : List Fl} {i : Nat} {F : Fl → Fl} {y : Fl} (h : y ∈ onId L i F) : ∃ x ∈ L, y = if x.id = i then F x else x := by
  obtain ⟨x, hx, e⟩ := List.mem_map.1 h
  exact ⟨x, hx, e.symm⟩
theorem ids_onId (L : List Fl) (i : Nat) (F : Fl → Fl) (hF : ∀ x, (F x).id = x.id) : (onId L i F).map Fl.id = L.map Fl.id := by
  unfold onId
  rw [List.map_map]
  apply List.map_congr_left
  intro x _
  show (if x.id = i then F x else x).id = x.id
  split
  · exact hF x
  · rfl
theorem nms_onId (L : List Fl) (i : Nat) (F : Fl → Fl) (hF : ∀ x, (F x).nm = x.nm) : (onId L i F).map Fl.nm = L.map Fl.nm := by
  unfold onId
  rw [List.map_map]
  apply List.map_congr_left
  intro x _
  show (if x.id = i then F x else x).nm = x.nm
  split
  · exact hF x
  · rfl
theorem onId_out (L : List Fl) (i : Nat) (F : Fl → Fl) (h : i ∉ L.map Fl.id) : onId L i F = L := by
  unfold onId
  conv => rhs; rw [← List.map_id L]
  apply List.map_congr_left
  intro x hx
  have hne : ¬ x.id = i := fun e => h (by rw [← e]; exact List.mem_map_of_mem hx)
  show (if x.id = i then F x else x) = x
  rw [if_neg hne]
/-- How the sum of all lengths turns where one file turns. -/
theorem usedL_onId {L : List Fl} {x : Fl} (F : Fl → Fl) (hn : (L.map Fl.id).Nodup) (hx : x ∈ L) : usedL (onId L x.id F) + x.body.length = usedL L + (F x).body.length := by
  induction L with
  | nil => cases hx
  | cons a l ih =>
    rw [List.map_cons, List.nodup_cons] at hn
    have hc : ∀ (y : Fl) (m : List Fl), usedL (y :: m) = y.body.length + usedL m := fun y m => by simp [usedL]
    have hcons : onId (a :: l) x.id F = (if a.id = x.id then F a else a) :: onId l x.id F := rfl
    rw [hcons, hc, hc]
    rcases List.mem_cons.1 hx with rfl | hx1
    · rw [if_pos rfl, onId_out l _ F hn.1]; omega
    · have hne : ¬ a.id = x.id := fun e => hn.1 (e ▸ List.mem_map_of_mem hx1)
      rw [if_neg hne]
      have := ih hn.2 hx1
      omega
theorem usedL_ge {L : List Fl} {x : Fl} (hx : x ∈ L) : x.body.length ≤ usedL L := by
  induction L with
  | nil => cases hx
  | cons a l ih =>
    have hc : usedL (a :: l) = a.body.length + usedL l := by simp [usedL]
    rcases List.mem_cons.1 hx with rfl | hx1
    · omega
    · have := ih hx1; omega
theorem usedL_out {L : List Fl} {x : Fl} (hn : (L.map Fl.id).Nodup) (hx : x ∈ L) : usedL (outId L x.id) + x.body.length = usedL L := by
  induction L with
  | nil => cases hx
  | cons a l ih =>
    rw [List.map_cons, List.nodup_cons] at hn
    have hc : ∀ (y : Fl) (m : List Fl), usedL (y :: m) = y.body.length + usedL m := fun y m => by simp [usedL]
    rcases List.mem_cons.1 hx with rfl | hx1
    · have : outId (x :: l) x.id = l := by
        unfold outId
        rw [List.filter_cons_of_neg (by simp), List.filter_eq_self]
        intro y hy
        simp only [decide_eq_true_eq]
        exact fun e => hn.1 (e ▸ List.mem_map_of_mem hy)
      rw [this, hc]; omega
    · have hne : ¬ a.id = x.id := fun e => hn.1 (e ▸ List.mem_map_of_mem hx1)
      have : outId (a :: l) x.id = a :: outId l x.id := by
        unfold outId
        rw [List.filter_cons_of_pos (by simpa using hne)]
      rw [this, hc, hc]
      have := ih hn.2 hx1
      omega
theorem mem_out {L : List Fl} {i : Nat} {y : Fl} (h : y ∈ outId L i) : y ∈ L ∧ y.id ≠ i := by
  have := List.mem_filter.1 h
  simpa using this
theorem owed_cons (p : Nat × Nat) (l : List (Nat × Nat)) (i : Nat) : owed (p :: l) i = (if p.1 = i then p.2 else 0) + owed l i := by
  unfold owed
  by_cases h : p.1 = i
  · rw [List.filter_cons_of_pos (by simpa using h), if_pos h]; simp
  · rw [List.filter_cons_of_neg (by simpa using h), if_neg h]; omega
theorem owed_append (l m : List (Nat × Nat)) (i : Nat) : owed (l ++ m) i = owed l i + owed m i := by
  unfold owed
  rw [List.filter_append, List.map_append, List.sum_append]
theorem owed_snoc (l : List (Nat × Nat)) (i c j : Nat) : owed (l ++ [(i, c)]) j = owed l j + if i = j then c else 0 := by
  rw [owed_append, owed_cons]; rfl
theorem owed_forget (l : List (Nat × Nat)) (i j : Nat) : owed (forgetL l i) j = if j = i then 0 else owed l j := by
  induction l with
  | nil => simp [forgetL, owed]
  | cons p l ih =>
    have hf : forgetL (p :: l) i = if p.1 = i then forgetL l i else p :: forgetL l i := by
      unfold forgetL
      by_cases h : p.1 = i
      · rw [List.filter_cons_of_neg (by simpa using h), if_pos h]
      · rw [List.filter_cons_of_pos (by simpa using h), if_neg h]
    rw [hf, owed_cons]
    by_cases h : p.1 = i
    · rw [if_pos h, ih]
      split
      · rfl
      · rename_i hji; rw [if_neg (by rw [h]; exact fun e => hji e.symm)]; omega
    · rw [if_neg h, owed_cons, ih]
      by_cases hji : j = i
      · rw [if_pos hji, if_pos hji, if_neg (by rw [hji]; exact h)]
      · rw [if_neg hji, if_neg hji]
theorem keepI_le (k : Int) (c : Nat) : keepI k c ≤ c := by unfold keepI; omega
/-- A crash, piece by piece: what stands behind it. -/
theorem crashL_spec : ∀ (ps : List (Nat × Nat)) (L : List Fl) (k : Int), (L.map Fl.id).Nodup → (∀ x ∈ L, owed ps x.id ≤ x.body.length) →
    (crashL L ps k).map Fl.id = L.map Fl.id ∧ (crashL L ps k).map Fl.nm = L.map Fl.nm ∧ usedL (crashL L ps k) ≤ usedL L
  | [], L, k, _, _ => ⟨rfl, rfl, Nat.le_refl _⟩
  | p :: ps, L, k, hn, ho => by
    have h1 := ids_onId L p.1 (cutF (p.2 - keepI k p.2)) (fun _ => rfl)
    have h2 := nms_onId L p.1 (cutF (p.2 - keepI k p.2)) (fun _ => rfl)
    have ho2 : ∀ x ∈ onId L p.1 (cutF (p.2 - keepI k p.2)), owed ps x.id ≤ x.body.length := by
      intro y hy
      obtain ⟨x, hx, rfl⟩ := mem_onId hy
      have := ho x hx
      rw [owed_cons] at this
      split
      · rename_i e
        rw [if_pos e.symm] at this
        simp only [cutF, List.length_take]
        omega
      · rename_i e
        omega
    obtain ⟨a, b, c⟩ := crashL_spec ps (onId L p.1 (cutF (p.2 - keepI k p.2))) (k - (keepI k p.2 : Int)) (by rw [h1]; exact hn) ho2
    refine ⟨a.trans h1, b.trans h2, Nat.le_trans c ?_⟩
    by_cases hp : p.1 ∈ L.map Fl.id
    · obtain ⟨x, hx, e⟩ := List.mem_map.1 hp
      have h3 := usedL_onId (cutF (p.2 - keepI k p.2)) hn hx
      rw [e] at h3
      simp only [cutF, List.length_take] at h3
      omega
    · rw [onId_out _ _ _ hp]; omega
theorem mem_of_map {α β : Type} {L M : List α} {F : α → β} (h : M.map F = L.map F) {y : α} (hy : y ∈ M) : ∃ x ∈ L, F x = F y := by
  have : F y ∈ L.map F := h ▸ List.mem_map_of_mem hy
  obtain ⟨x, hx, e⟩ := List.mem_map.1 this
  exact ⟨x, hx, e⟩
theorem Dk.wf.crash {A : Dk} (h : A.wf) (k : Int) : (A.crash k).wf := by
  unfold Dk.crash
  split
  · exact h
  · obtain ⟨a, b, c⟩ := crashL_spec A.pcs A.L k h.ids h.enough
    refine ⟨?_, ?_, ?_, ?_, ?_, ?_, Nat.le_trans c h.fits, h.capI, by simp, by simp⟩
    · show ((crashL A.L A.pcs k).map Fl.id).Nodup
      rw [a]; exact h.ids
    · show ((crashL A.L A.pcs k).map Fl.nm).Nodup
      rw [b]; exact h.nms
    · intro x hx
      obtain ⟨y, hy, e⟩ := mem_of_map b hx
      rw [← e]; exact h.good y hy
    · intro x hx
      obtain ⟨y, hy, e⟩ := mem_of_map a hx
      rw [← e]; exact h.lt y hy
    · intro p hp; cases hp
    · intro x hx; exact Nat.zero_le _
theorem Dk.wf.arm {A : Dk} (h : A.wf) (n k : Int) (hn : -9223372036854775808 ≤ n ∧ n ≤ 9223372036854775807) (hk : -9223372036854775808 ≤ k ∧ k ≤ 9223372036854775807) : (A.arm n k).wf := ⟨h.ids, h.nms, h.good, h.lt, h.live, h.enough, h.fits, h.capI, hn, hk⟩
theorem Dk.wf.start {A : Dk} (h : A.wf) : A.start.wf := ⟨h.ids, h.nms, h.good, h.lt, h.live, h.enough, h.fits, h.capI, h.leftI, h.keepB⟩
theorem Dk.wf.pre {A : Dk} (h : A.wf) : A.pre.wf := by
  unfold Dk.pre
  split
  · split
    · exact h.crash _
    · exact h.arm _ _ (by have := h.leftI; omega) h.keepB
  · exact h
theorem chk0 {s : ByteArray} {d : Bool} (h : ¬ chk d [s] ≠ 0) : d = false ∧ badName s = false := by
  unfold chk at h
  cases d with
  | true => simp at h
  | false =>
    refine ⟨rfl, ?_⟩
    cases hb : badName s with
    | false => rfl
    | true => simp [hb] at h
theorem Dk.wf.create {A : Dk} (h : A.wf) (s : ByteArray) : (A.create s).2.wf := by
  have hp := h.pre
  unfold Dk.create
  split
  · exact hp
  · rename_i hc
    split
    · exact hp
    · rename_i hf
      have hf' : findL A.pre.L s = none := by cases hx : findL A.pre.L s with | none => rfl | some y => (rw [hx] at hf; exact absurd rfl hf)
      have hu : usedL (A.pre.L ++ [⟨A.pre.next, s, []⟩]) = usedL A.pre.L := by simp [usedL]
      refine ⟨?_, ?_, ?_, ?_, ?_, ?_, ?_, hp.capI, hp.leftI, hp.keepB⟩
      · show ((A.pre.L ++ [_]).map Fl.id).Nodup
        rw [List.map_append, List.nodup_append]
        refine ⟨hp.ids, by simp, ?_⟩
        intro a ha b hb e
        obtain ⟨x, hx, rfl⟩ := List.mem_map.1 ha
        have := hp.lt x hx
        simp at hb
        omega
      · show ((A.pre.L ++ [_]).map Fl.nm).Nodup
        rw [List.map_append, List.nodup_append]
        refine ⟨hp.nms, by simp, ?_⟩
        intro a ha b hb e
        obtain ⟨x, hx, rfl⟩ := List.mem_map.1 ha
        simp at hb
        exact findL_none hf' x hx (e.trans hb)
      · intro x hx
        rcases List.mem_append.1 hx with hx | hx
        · exact hp.good x hx
        · rw [List.mem_singleton.1 hx]; exact (chk0 hc).2
      · intro x hx
        rcases List.mem_append.1 hx with hx | hx
        · exact Nat.lt_succ_of_lt (hp.lt x hx)
        · rw [List.mem_singleton.1 hx]; exact Nat.lt_succ_self _
      · intro p hq
        obtain ⟨x, hx, e⟩ := hp.live p hq
        exact ⟨x, List.mem_append_left _ hx, e⟩
      · intro x hx
        rcases List.mem_append.1 hx with hx | hx
        · exact hp.enough x hx
        · rw [List.mem_singleton.1 hx]
          show owed A.pre.pcs A.pre.next ≤ 0
          have : (A.pre.pcs.filter fun p => decide (p.1 = A.pre.next)) = [] := by
            rw [List.filter_eq_nil_iff]
            intro p hq
            obtain ⟨x, hx, e⟩ := hp.live p hq
            have := hp.lt x hx
            simp only [decide_eq_true_eq]
            omega
          unfold owed
          rw [this]; simp
      · show usedL (A.pre.L ++ [_]) ≤ A.pre.cap
        rw [hu]; exact hp.fits
theorem Dk.wf.putIn {A : Dk} (h : A.wf) {x : Fl} (hx : x ∈ A.L) (b : List UInt8) : (A.putIn x.id b).2.wf := by
  unfold Dk.putIn
  split
  · exact h
  · split
    · exact h
    · rename_i hfit hb0
      have h1 := ids_onId A.L x.id (putF b) (fun _ => rfl)
      have h2 := nms_onId A.L x.id (putF b) (fun _ => rfl)
      have h3 := usedL_onId (putF b) h.ids hx
      simp only [putF, List.length_append] at h3
      refine ⟨?_, ?_, ?_, ?_, ?_, ?_, ?_, h.capI, h.leftI, h.keepB⟩
      · show ((onId A.L x.id (putF b)).map Fl.id).Nodup
        rw [h1]; exact h.ids
      · show ((onId A.L x.id (putF b)).map Fl.nm).Nodup
        rw [h2]; exact h.nms
      · intro y hy
        obtain ⟨z, hz, e⟩ := mem_of_map h2 hy
        rw [← e]; exact h.good z hz
      · intro y hy
        obtain ⟨z, hz, e⟩ := mem_of_map h1 hy
        rw [← e]; exact h.lt z hz
      · intro p hp
        have : ∃ z ∈ A.L, z.id = p.1 := by
          rcases List.mem_append.1 hp with hp | hp
          · exact h.live p hp
          · exact ⟨x, hx, by rw [List.mem_singleton.1 hp]⟩
        obtain ⟨z, hz, e⟩ := this
        obtain ⟨y, hy, e2⟩ := mem_of_map h1.symm hz
        exact ⟨y, hy, e2.trans e⟩
      · intro y hy
        obtain ⟨z, hz, rfl⟩ := mem_onId hy
        have h5 := h.enough z hz
        have h6 := owed_snoc A.pcs x.id b.length z.id
        by_cases e : z.id = x.id
        · rw [if_pos e]
          show owed (A.pcs ++ [(x.id, b.length)]) z.id ≤ (z.body ++ b).length
          rw [if_pos e.symm] at h6
          rw [h6, List.length_append]; omega
        · rw [if_neg e]
          show owed (A.pcs ++ [(x.id, b.length)]) z.id ≤ z.body.length
          rw [if_neg (fun q => e q.symm)] at h6
          rw [h6]; omega
      · show usedL (onId A.L x.id (putF b)) ≤ A.cap
        have : (putF b x).body.length = x.body.length + b.length := by simp [putF]
        unfold putF at *
        omega
theorem Dk.wf.forget {A : Dk} (h : A.wf) (i : Nat) : (A.forget i).wf := by
  refine ⟨h.ids, h.nms, h.good, h.lt, ?_, ?_, h.fits, h.capI, h.leftI, h.keepB⟩
  · intro p hp
    exact h.live p (List.mem_filter.1 hp).1
  · intro x hx
    show owed (forgetL A.pcs i) x.id ≤ _
    rw [owed_forget]
    split
    · exact Nat.zero_le _
    · exact h.enough x hx
theorem Dk.wf.drop {A : Dk} (h : A.wf) {x : Fl} (hx : x ∈ A.L) : (A.drop x.id).wf := by
  have hs : (outId A.L x.id).Sublist A.L := List.filter_sublist
  refine ⟨h.ids.sublist (hs.map _), h.nms.sublist (hs.map _), fun y hy => h.good y (mem_out hy).1, fun y hy => h.lt y (mem_out hy).1, ?_, ?_, ?_, h.capI, h.leftI, h.keepB⟩
  · intro p hp
    have hq := List.mem_filter.1 hp
    obtain ⟨y, hy, e⟩ := h.live p hq.1
    refine ⟨y, List.mem_filter.2 ⟨hy, ?_⟩, e⟩
    rw [e]
    exact hq.2
  · intro y hy
    show owed (forgetL A.pcs x.id) y.id ≤ _
    rw [owed_forget, if_neg (mem_out hy).2]
    exact h.enough y (mem_out hy).1
  · show usedL (outId A.L x.id) ≤ A.cap
    have := usedL_out h.ids hx
    have := h.fits
    omega
theorem Dk.wf.sync {A : Dk} (h : A.wf) (s : ByteArray) : (A.sync s).2.wf := by
  unfold Dk.sync
  split
  · exact h.pre
  · split
    · exact h.pre
    · exact h.pre.forget _
theorem Dk.wf.append {A : Dk} (h : A.wf) (s : ByteArray) (b : List UInt8) : (A.append s b).2.wf := by
  unfold Dk.append
  split
  · exact h.pre
  · split
    · exact h.pre
    · rename_i x hx
      exact h.pre.putIn (findL_some hx).1 b
theorem Dk.wf.delete {A : Dk} (h : A.wf) (s : ByteArray) : (A.delete s).2.wf := by
  unfold Dk.delete
  split
  · exact h.pre
  · split
    · exact h.pre
    · rename_i x hx
      exact h.pre.drop (findL_some hx).1
theorem Dk.wf.new (c : Nat) (hc : c ≤ 9223372036854775807) : (Dk.new c).wf := by
  refine ⟨List.nodup_nil, List.nodup_nil, ?_, ?_, ?_, ?_, Nat.zero_le _, hc, by show (_ ≤ (0 : Int) ∧ (0 : Int) ≤ _); omega, by show (_ ≤ (0 : Int) ∧ (0 : Int) ≤ _); omega⟩ <;> (intro x hx; cases hx)
end Go.Proofs.Ytomeghngjiaofaa

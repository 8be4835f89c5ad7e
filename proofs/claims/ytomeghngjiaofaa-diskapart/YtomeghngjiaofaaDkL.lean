/-
  disk's lose.
-/
import Derived.Test.YtomeghngjiaofaaDkA
namespace Go.Proofs.Ytomeghngjiaofaa
open Go.RowKit
theorem wsubn {a c : Nat} (h : c ≤ a) (ha : a ≤ 9223372036854775807) : wrap64 ((a : Int) - (c : Int)) = ((a - c : Nat) : Int) := by unfold wrap64; omega
set_option maxRecDepth 100000 in
theorem lose_raw (g h u bn bc c : Nat) (bo : Option Addr) (w : World) (h1 : w.cell? ⟨h, 1, none⟩ = some (.slice bo bn bc)) (h2 : w.cell? ⟨g, 1, none⟩ = some (.int .i64 u)) (f1 : w.frozen? ⟨h, 1, none⟩ = false) (f2 : w.frozen? ⟨g, 1, none⟩ = false) (hne : h ≠ g)
    (hc : c ≤ bn) (hcu : c ≤ u) (hbc : bn ≤ bc) (hm : bc ≤ 9223372036854775807) (hu : u ≤ 9223372036854775807) :
    Calls Try.prog 46 #[.pointer (some ⟨g, 0, none⟩), .pointer (some ⟨h, 0, none⟩), .int .i64 (c : Int)] w fun e w' => e = .returned (.tuple #[]) ∧ w' = ((w.setCell ⟨h, 1, none⟩ (.slice bo (bn - c) bc)).setCell ⟨g, 1, none⟩ (.int .i64 ((u - c : Nat) : Int))).drewN 1 := by
  have hw1 := wsubn hc (Nat.le_trans hbc hm)
  have hw2 := wsubn hcu hu
  have hne' : ¬ h = g := hne
  have hne2 : ¬ g = h := fun e => hne e.symm
  obtain ⟨r, hr⟩ : ∃ r, bn - c = r := ⟨_, rfl⟩
  obtain ⟨q, hq⟩ : ∃ q, u - c = q := ⟨_, rfl⟩
  rw [hr] at hw1 ⊢
  rw [hq] at hw2 ⊢
  have hr0 : (0 : Int) ≤ (r : Int) := Int.natCast_nonneg _
  have hrc : (r : Int) ≤ (bc : Int) := by omega
  clear hc hcu hbc hm hu hne hr hq
  go_enter Try.func46, Try.ntmps46
  go_wp2_with fail
  go_region
  go_wp2_with fail
  go_end0
  exact ⟨rfl, rfl⟩
theorem flC_set (s : ByteArray) (v u : Value) : (flC s v).setIfInBounds 1 u = flC s u := rfl
section
variable {own : Nat → Prop} {w : World} {g : Nat} {A : Dk} {m n : Nat} {uo : Option Addr} {uc : Nat} {blk : Nat → Nat} {bv : Nat → Value}
theorem DiskIn.blk_ne (h : DiskIn own w g A m n uo uc blk bv) (hnm : (A.L.map Fl.nm).Nodup) {x y : Fl} (hx : x ∈ A.L) (hy : y ∈ A.L) (hne : y.id ≠ x.id) : blk y.id ≠ blk x.id := fun e => hne (by rw [nodup_at hnm hy hx ((h.fg hx).2.2.2 y hy e)])
/-- One file's body turns: its cell, its row; and the struct's count. -/
theorem DiskIn.bodyTurn (h : DiskIn own w g A m n uo uc blk bv) (hid : (A.L.map Fl.id).Nodup) (hnm : (A.L.map Fl.nm).Nodup) {x : Fl} (hx : x ∈ A.L) (F : Fl → Fl) (hF : ∀ y, (F y).id = y.id ∧ (F y).nm = y.nm) {w' : World} {v' : Value} {own' : Nat → Prop}
    (hs : ∀ k, own k → own' k) (hb : ∀ k, own k → k ≠ g → k ≠ blk x.id → (bv x.id).ownBlock ≠ some k → w'.heap[k]? = w.heap[k]?)
    (hf : w'.heap[blk x.id]? = some (.cells (flC x.nm v') 77 (0, 0)))
    (hr : w'.ownsRow 0 5 1 v' (F x).body.length (cellsOf (F x).body)) (ho : ∀ k, v'.ownBlock = some k → own' k ∧ ((bv x.id).ownBlock = some k ∨ ¬ own k))
    (hg : w'.heap[g]? = some (.cells (dskC (A.cap : Int) (usedL (onId A.L x.id F) : Int) m uo A.pcs.length uc A.down A.left A.keep) 69 (0, 0))) :
    DiskIn own' w' g ⟨A.cap, onId A.L x.id F, A.pcs, A.down, A.left, A.keep, A.next⟩ m n uo uc blk (fun i => if i = x.id then v' else bv i) := by
  have hfind : ∀ s, (findL (onId A.L x.id F) s).map (fun y => blk y.id) = (findL A.L s).map fun y => blk y.id := by
    intro s
    have : ∀ L : List Fl, (findL (onId L x.id F) s).map (fun y => blk y.id) = (findL L s).map fun y => blk y.id := by
      intro L
      induction L with
      | nil => rfl
      | cons a l ih =>
        have hc : onId (a :: l) x.id F = (if a.id = x.id then F a else a) :: onId l x.id F := rfl
        have hn2 : (if a.id = x.id then F a else a).nm = a.nm := by split <;> simp [hF]
        have hi2 : (if a.id = x.id then F a else a).id = a.id := by split <;> simp [hF]
        unfold findL at ih ⊢
        rw [hc, List.find?_cons, List.find?_cons, hn2]
        by_cases hd : a.nm = s
        · simp [hd, hi2]
        · simp only [hd, decide_false]; exact ih
    exact this A.L
  refine ⟨hs _ h.og, hs _ h.om, hg, ?_, ?_, ?_, ?_, ?_⟩
  · refine (h.files.block (hb m h.om (fun e => h.gm e.symm) (fun e => (h.fg hx).2.1 e.symm) (fun e => (h.bg hx e).2.1 rfl))).same hfind
  · exact row_block h.pcs (fun k hk => hb k (h.pown k hk) (h.pg hk).1 ((h.pg hk).2.2.1 x hx) ((h.pg hk).2.2.2 x hx))
  · exact fun k hk => hs k (h.pown k hk)
  · intro y hy
    obtain ⟨z, hz, rfl⟩ := mem_onId hy
    obtain ⟨a, b, c, d⟩ := h.file z hz
    by_cases hzx : z.id = x.id
    · have e : z = x := nodup_at hid hz hx hzx
      subst e
      rw [if_pos rfl, (hF z).1, (hF z).2]
      simp only [if_true]
      exact ⟨hs _ a, hf, hr, fun k hk => (ho k hk).1⟩
    · rw [if_neg hzx]
      simp only [if_neg hzx]
      have hbz : ∀ k, (bv z.id).ownBlock = some k → w'.heap[k]? = w.heap[k]? := fun k hk => hb k (d k hk) (h.bg hz hk).1 ((h.bg hz hk).2.2 x hx) (fun e => hzx (h.apart z hz x hx k hk e))
      exact ⟨hs _ a, by rw [hb _ a (h.fg hz).1 (h.blk_ne hnm hx hz hzx) ((h.fg hz).2.2.1 x hx)]; exact b, row_block c hbz, fun k hk => hs k (d k hk)⟩
  · intro y hy y' hy' k h1 h2
    obtain ⟨z, hz, rfl⟩ := mem_onId hy
    obtain ⟨z', hz', rfl⟩ := mem_onId hy'
    have ez : (if z.id = x.id then F z else z).id = z.id := by split <;> simp [hF]
    have ez' : (if z'.id = x.id then F z' else z').id = z'.id := by split <;> simp [hF]
    simp only [ez] at h1
    simp only [ez'] at h2
    rw [ez, ez']
    by_cases c1 : z.id = x.id
    · by_cases c2 : z'.id = x.id
      · rw [c1, c2]
      · simp only [if_pos c1] at h1
        simp only [if_neg c2] at h2
        rcases (ho k h1).2 with q | q
        · exact absurd (h.apart z' hz' x hx k h2 q) c2
        · exact absurd ((h.file z' hz').2.2.2 k h2) q
    · by_cases c2 : z'.id = x.id
      · simp only [if_neg c1] at h1
        simp only [if_pos c2] at h2
        rcases (ho k h2).2 with q | q
        · exact absurd (h.apart z hz x hx k h1 q) c1
        · exact absurd ((h.file z hz).2.2.2 k h1) q
      · simp only [if_neg c1] at h1
        simp only [if_neg c2] at h2
        exact h.apart z hz z' hz' k h1 h2
end
end Go.Proofs.Ytomeghngjiaofaa

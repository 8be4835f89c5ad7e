/-
  What seek.ends and seek.open answer: contracts over this translation. What seek.open answers: a contract over this translation. What seek.Prove answers: a contract over this translation.
-/
import Derived.Test.YtecacjddggljgaaDoorPartCI
import Derived.Test.YtecacjddggljgaaDoorPartCA
import Derived.Test.YtecacjddggljgaaDoorPartDA
namespace Go.Proofs.YtecacjddggljgaaDoor
open Go.RowKit Go.Sort Go.Shelf
set_option linter.unusedSectionVars false
variable [Inhabited E] [DecidableEq E]
theorem built48 (f t : ByteArray) : Tryd.prog.built 48 [(3, .string f), (4, .string t)] = some (tabC 0 0 (List.replicate 32 0) f t) := by kernel_rfl
theorem zero48 : (Tryd.prog.info? 48).map (fun i => i.zero) = some (some (.agg (tabC 0 0 (List.replicate 32 0) ⟨#[]⟩ ⟨#[]⟩))) := by kernel_rfl
set_option maxRecDepth 100000 in
set_option maxHeartbeats 2000000 in
theorem ends_any (b off n c : Nat) (es : List E) (w : World) (hE : EntsV w (some ⟨b, off, none⟩) n es) (h1 : 1 ≤ n) (hn : n ≤ 1000) :
    Calls Tryd.prog 37 #[.slice (some ⟨b, off, none⟩) n c] w fun e w' => e = .returned (.agg (tabC 0 0 (List.replicate 32 0) es[0]!.key es[es.length - 1]!.key)) ∧ Below w.heap.size w w' := by
  obtain ⟨m, rfl⟩ : ∃ m, n = m + 1 := ⟨n - 1, by omega⟩
  obtain ⟨b', off', h2, hEn⟩ := hE.2 (by omega)
  cases h2
  have hl := hE.1
  obtain ⟨k1, HK1⟩ : ∃ k, Hid (es[0]!.key = k) := ⟨_, rfl⟩
  obtain ⟨k2, HK2⟩ : ∃ k, Hid (es[es.length - 1]!.key = k) := ⟨_, rfl⟩
  have c0 : w.cell? ⟨b, off, none⟩ = some (.string k1) := by
    have h3 := (ents_four hEn 0 (by omega) (k := es[0]!.key) (v := es[0]!.value) (d := es[0]!.del) (q := es[0]!.seq) rfl).1
    rw [HK1.out] at h3
    simpa using h3
  have c1 : w.cell? ⟨b, off + m * 4, none⟩ = some (.string k2) := by
    have h3 := (ents_four hEn m (by omega) (k := es[m]!.key) (v := es[m]!.value) (d := es[m]!.del) (q := es[m]!.seq) rfl).1
    have e : es[m]!.key = k2 := by rw [← HK2.out, hl]; rfl
    rw [e] at h3
    exact h3
  have HC : Hid (∀ W, Below w.heap.size w W → W.cell? ⟨b, off, none⟩ = some (.string k1) ∧ W.cell? ⟨b, off + m * 4, none⟩ = some (.string k2)) := fun W hW =>
    ⟨by rw [← c0]; exact World.cell?_of_block (hW.block _ (World.block_lt_of_cell? w _ c0)), by rw [← c1]; exact World.cell?_of_block (hW.block _ (World.block_lt_of_cell? w _ c1))⟩
  rw [HK1.out, HK2.out]
  have HB0 : Hid _ := built48 k1 k2
  have hm1 : wrap64 ((m : Int) + 1 - 1) = (m : Int) := by unfold wrap64; omega
  have hm2 : IntKind.i64.wrap ((m : Int) + 1 - 1) = (m : Int) := by rw [IntKind.wrap_i64]; omega
  have hm7 : IntKind.i64.wrap (m : Int) = (m : Int) := by rw [IntKind.wrap_i64]; omega
  have hm3 : (m : Int) < (m : Int) + 1 := by omega
  have hm4 : (0 : Int) < (m : Int) + 1 := by omega
  have hm5 : 0 < m + 1 := by omega
  have hm6 : m < m + 1 := by omega
  clear hE hEn hl c0 c1
  go_enter Tryd.func37, Tryd.ntmps37
  go_upto_region 1 with fail
  have HA : Hid (Below w.heap.size w (w.alloc (.cells (tabC 0 0 (List.replicate 32 0) ⟨#[]⟩ ⟨#[]⟩) 48))) := bel_alloc w _
  refine wp_region_held_drew (S := fun W => W.cell? ⟨b, off, none⟩ = some (.string k1) ∧ W.cell? ⟨b, off + m * 4, none⟩ = some (.string k2)) (by kernel_rfl) (HC.out _ HA.out.drew) (fun hS => ?_)
  refine wpAnyH_take (i := 0) (v := ?_) rfl (by kernel_rfl) (by kernel_rfl) (by kernel_rfl) (fun _ _ _ h => h) (Or.inl ⟨by rfl, ?_⟩) (by assumption) ?_
  rotate_left
  · (intro w hSw; (try dsimp only at hSw); go_simp; try with_reducible rfl)
  simp only [Act.put, List.getElem_toArray, List.getElem_cons_zero, List.setIfInBounds_toArray, List.set_cons_zero, List.set_cons_succ]
  refine wpAnyH_take (i := 1) (v := ?_) rfl (by kernel_rfl) (by kernel_rfl) (by kernel_rfl) (fun _ _ _ h => h) (Or.inl ⟨by rfl, ?_⟩) (by assumption) ?_
  rotate_left
  · (intro w hSw; (try dsimp only at hSw); go_simp; try with_reducible rfl)
  simp only [Act.put, List.getElem_toArray, List.getElem_cons_zero, List.getElem_cons_succ, List.setIfInBounds_toArray, List.set_cons_zero, List.set_cons_succ]
  refine wpAnyH_take (i := 2) (v := ?_) rfl (by kernel_rfl) (by kernel_rfl) (by kernel_rfl) (fun _ _ _ h => h) (Or.inl ⟨by rfl, ?_⟩) (by assumption) ?_
  rotate_left
  · (intro w hSw; (try dsimp only at hSw); go_simp; try with_reducible rfl)
  simp only [Act.put, List.getElem_toArray, List.getElem_cons_zero, List.getElem_cons_succ, List.setIfInBounds_toArray, List.set_cons_zero, List.set_cons_succ]
  refine wpAnyH_take (i := 3) (v := ?_) rfl (by kernel_rfl) (by kernel_rfl) (by kernel_rfl) (fun _ _ _ h => h) (Or.inl ⟨by rfl, ?_⟩) (by assumption) ?_
  rotate_left
  · (intro w hSw; (try dsimp only at hSw); go_simp; try with_reducible rfl)
  simp only [Act.put, List.getElem_toArray, List.getElem_cons_zero, List.getElem_cons_succ, List.setIfInBounds_toArray, List.set_cons_zero, List.set_cons_succ]
  refine wpAnyH_take (i := 4) (v := ?_) rfl (by kernel_rfl) (by kernel_rfl) (by kernel_rfl) (fun _ _ _ h => h) (Or.inl ⟨by rfl, ?_⟩) (by assumption) ?_
  rotate_left
  · (intro w hSw; (try dsimp only at hSw); go_simp; try with_reducible rfl)
  simp only [Act.put, List.getElem_toArray, List.getElem_cons_zero, List.getElem_cons_succ, List.setIfInBounds_toArray, List.set_cons_zero, List.set_cons_succ]
  refine wpAnyH_take (i := 5) (v := ?_) rfl (by kernel_rfl) (by kernel_rfl) (by kernel_rfl) (fun _ _ _ h => h) (Or.inl ⟨by rfl, ?_⟩) (by assumption) ?_
  rotate_left
  · (intro w hSw; (try dsimp only at hSw); go_simp; try with_reducible rfl)
  simp only [Act.put, List.getElem_toArray, List.getElem_cons_zero, List.getElem_cons_succ, List.setIfInBounds_toArray, List.set_cons_zero, List.set_cons_succ]
  refine wpAnyH_take (i := 6) (v := ?_) rfl (by kernel_rfl) (by kernel_rfl) (by kernel_rfl) (fun _ _ _ h => h) (Or.inl ⟨by rfl, ?_⟩) (by assumption) ?_
  rotate_left
  · (intro w hSw; (try dsimp only at hSw); go_simp; try with_reducible rfl)
  simp only [Act.put, List.getElem_toArray, List.getElem_cons_zero, List.getElem_cons_succ, List.setIfInBounds_toArray, List.set_cons_zero, List.set_cons_succ]
  refine wpAnyH_take (i := 7) (v := ?_) rfl (by kernel_rfl) (by kernel_rfl) (by kernel_rfl) (fun _ _ _ h => h) (Or.inl ⟨by rfl, ?_⟩) (by assumption) ?_
  rotate_left
  · (intro w hSw; (try dsimp only at hSw); go_simp; try with_reducible rfl)
  simp only [Act.put, List.getElem_toArray, List.getElem_cons_zero, List.getElem_cons_succ, List.setIfInBounds_toArray, List.set_cons_zero, List.set_cons_succ]
  refine wpAnyH_take (i := 8) (v := ?_) rfl (by kernel_rfl) (by kernel_rfl) (by kernel_rfl) (fun _ _ _ h => h) (Or.inl ⟨by rfl, ?_⟩) (by assumption) ?_
  rotate_left
  · (intro w hSw; (try dsimp only at hSw); go_simp; try with_reducible rfl)
  simp only [Act.put, List.getElem_toArray, List.getElem_cons_zero, List.getElem_cons_succ, List.setIfInBounds_toArray, List.set_cons_zero, List.set_cons_succ]
  refine wpAnyH_take (i := 9) (v := ?_) rfl (by kernel_rfl) (by kernel_rfl) (by kernel_rfl) (fun _ _ _ h => h) (Or.inl ⟨by rfl, ?_⟩) (by assumption) ?_
  rotate_left
  · (intro w hSw; (try dsimp only at hSw); go_simp; try with_reducible rfl)
  simp only [Act.put, List.getElem_toArray, List.getElem_cons_zero, List.getElem_cons_succ, List.setIfInBounds_toArray, List.set_cons_zero, List.set_cons_succ]
  refine wpAnyH_take (i := 10) (v := ?_) rfl (by kernel_rfl) (by kernel_rfl) (by kernel_rfl) (fun _ _ _ h => h) (Or.inl ⟨by rfl, ?_⟩) (by assumption) ?_
  rotate_left
  · (intro w hSw; (try dsimp only at hSw); go_simp; try with_reducible rfl)
  simp only [Act.put, List.getElem_toArray, List.getElem_cons_zero, List.getElem_cons_succ, List.setIfInBounds_toArray, List.set_cons_zero, List.set_cons_succ]
  refine wpAnyH_take (i := 11) (v := .agg (tabC 0 0 (List.replicate 32 0) k1 k2)) rfl (by kernel_rfl) (by kernel_rfl) (by kernel_rfl) (fun _ _ _ h => h) (Sm.yieldsIf_build (by rfl) 48 _ rfl (tabC 0 0 (List.replicate 32 0) k1 k2) _ HB0.out (by rfl)) (by assumption) ?_
  simp only [Act.put, List.getElem_toArray, List.getElem_cons_zero, List.getElem_cons_succ, List.setIfInBounds_toArray, List.set_cons_zero, List.set_cons_succ]
  refine wpAnyH_ready (rs := [12]) (by kernel_rfl) (by simp) ?_
  refine AllReadyH.cons rfl (fun K hK => ?_) AllReadyH.nil
  rw [if_pos (by rfl)]
  refine wp_store_row 48 (.tmp 2) (.tmp 14) rfl w.heap.size (tabC 0 0 (List.replicate 32 0) k1 k2) rfl rfl 48 (tabC 0 0 (List.replicate 32 0) ⟨#[]⟩ ⟨#[]⟩) (show (w.alloc (.cells (tabC 0 0 (List.replicate 32 0) ⟨#[]⟩ ⟨#[]⟩) 48)).drew.heap[w.heap.size]? = some (.cells (tabC 0 0 (List.replicate 32 0) ⟨#[]⟩ ⟨#[]⟩) 48 (0, 0)) from heap_alloc_new w _) (by rw [size48, tabC_size _ _ (by simp)]) (by rw [tabC_size _ _ (by simp), tabC_size _ _ (by simp)]) (tabC_all _ _ _ _ _) ?_
  have HX : Hid (((w.alloc (.cells (tabC 0 0 (List.replicate 32 0) ⟨#[]⟩ ⟨#[]⟩) 48)).drew.setRow w.heap.size (tabC 0 0 (List.replicate 32 0) k1 k2)).heap[w.heap.size]? = some (.cells (tabC 0 0 (List.replicate 32 0) k1 k2) 48 (0, 0)) ∧ Below w.heap.size w ((w.alloc (.cells (tabC 0 0 (List.replicate 32 0) ⟨#[]⟩ ⟨#[]⟩) 48)).drew.setRow w.heap.size (tabC 0 0 (List.replicate 32 0) k1 k2))) :=
    ⟨setRow_heap _ _ _ _ _ _ (show (w.alloc (.cells (tabC 0 0 (List.replicate 32 0) ⟨#[]⟩ ⟨#[]⟩) 48)).drew.heap[w.heap.size]? = some (.cells (tabC 0 0 (List.replicate 32 0) ⟨#[]⟩ ⟨#[]⟩) 48 (0, 0)) from heap_alloc_new w _), below_setRow HA.out.drew (Nat.le_refl _) _⟩
  refine hK.out _ _ (HC.out _ HX.out.2) (fun hHeld => ?_)
  clear hK K hHeld hS
  refine wpAnyH_done (by kernel_rfl) ?_ _
  change Exit.then _ _ Exit.normal _ ((w.alloc (.cells (tabC 0 0 (List.replicate 32 0) ⟨#[]⟩ ⟨#[]⟩) 48)).drew.setRow w.heap.size (tabC 0 0 (List.replicate 32 0) k1 k2))
  generalize (w.alloc (.cells (tabC 0 0 (List.replicate 32 0) ⟨#[]⟩ ⟨#[]⟩) 48)).drew.setRow w.heap.size (tabC 0 0 (List.replicate 32 0) k1 k2) = w4 at *
  go_wp2
  refine bodyPost_ret (results_cell_row rfl _ _ w.heap.size 48 (tabC 0 0 (List.replicate 32 0) k1 k2) (0, 0) _ rfl HX.out.1 Tryd.underlying48 rfl (by rw [size48, tabC_size _ _ (by simp)])) rfl ?_
  exact ⟨rfl, HX.out.2⟩
end Go.Proofs.YtecacjddggljgaaDoor
namespace Go.Proofs.YtecacjddggljgaaDoor
open Go.RowKit Go.Sort Go.Shelf
set_option linter.unusedSectionVars false
variable [Inhabited E] [DecidableEq E]
set_option maxRecDepth 100000 in
set_option maxHeartbeats 2000000 in
theorem open_any (z : Int) (ao : Option Addr) (n c : Nat) (ls : List Sm.LV) (x : Nat) (w : World) (hL : Sm.LeavesV w ao n c ls) (hcap : ∀ p ∈ ls, p.n ≤ p.c ∧ p.c ≤ 9223372036854775807) (hn : n ≤ 1000) (hx : x < n) (hK : Sm.WW w 1 Sm.ks) (hz0 : 1 < w.heap.size) (hz : -9223372036854775808 ≤ z ∧ z ≤ 9223372036854775807) :
    Calls Tryd.prog 38 #[.agg #[.int .i64 z], .slice ao n c, .int .i64 (x : Int)] w fun e w' => ∃ o : Opn, e = .returned (.agg o.cells) ∧ OpnV w' o ∧ o.at_ = (x : Int) ∧ (∀ p, ls[x]? = some p → o.bs = p.bs ∧ o.lo = p.ao ∧ o.ln = p.n) ∧ (∀ V : World, (∀ a v, w.heap.size ≤ a.block → w'.cell? a = some v → V.cell? a = some v) → Sm.PathV V o.po o.ds) ∧ o.ds = Sm.pathD z ls (x : Int) ∧ Below w.heap.size w w' := by
  have hlq := hL.1
  obtain ⟨b, off, rfl, hat⟩ := hL.2.2.2 (by omega)
  obtain ⟨p, hp⟩ : ∃ p, ls[x]? = some p := ⟨_, List.getElem?_eq_getElem (by omega)⟩
  obtain ⟨hc0, hbs, hpn, hp0⟩ := hat x p hp
  have hcp := hcap p (List.mem_of_getElem? hp)
  obtain ⟨W2, HW2⟩ : ∃ W, Hid (W = (w.alloc (.cells #[.int .i64 z] 26)).alloc (.cells #[.int .i64 0, .slice none 0 0, .slice none 0 0] 30)) := ⟨_, rfl⟩
  have HF : Hid (W2.heap[w.heap.size]? = some (.cells #[.int .i64 z] 26 (0, 0)) ∧ W2.heap[w.heap.size + 1]? = some (.cells #[.int .i64 0, .slice none 0 0, .slice none 0 0] 30 (0, 0)) ∧ Below w.heap.size w W2 ∧ W2.heap.size = w.heap.size + 2) := by
    show _ ∧ _
    rw [HW2.out]; exact Sm.frame2 w _ _ _
  have HP : Hid _ := Sm.path_any z (some ⟨b, off, none⟩) n c ls (x : Int) W2 (hL.below HF.out.2.2.1 (Nat.le_refl _)) hn (hK.below HF.out.2.2.1 hz0) (by have := HF.out.2.2.2; omega) hz
  have hpe : Sm.pathE n (x : Int) = 0 := by unfold Sm.pathE; rw [if_pos (by omega)]
  rw [hpe] at HP
  have HL : Hid (∀ V, Below w.heap.size w V → V.cell? ⟨b, off + x, none⟩ = some (.slice p.ao p.n p.c) ∧ Sm.Bytes V p.ao p.n p.bs) := fun V hV =>
    ⟨by rw [← hc0]; exact World.cell?_of_block (hV.block _ (World.block_lt_of_cell? w _ hc0)), Sm.bytes_kept hbs hV (Nat.le_refl _)⟩
  have HCP : Hid _ := hcp
  have HPN : Hid _ := And.intro hpn hp0
  have HPP : Hid _ := hp
  have hxz : (x : Int) < (n : Int) := by omega
  clear hL hat hc0 hbs hpn hp0 hcp hK hz0 hz hpe hp
  go_enter Tryd.func38, Tryd.ntmps38
  go_upto_region 1 with fail
  rw [← HW2.out]
  go_wp2_with (refine wpList_load_row rfl 26 (.tmp 3) rfl w.heap.size rfl 26 #[.int .i64 z] (0, 0) _ HF.out.1 Tryd.underlying26 rfl size26 ?_)
  refine Calls.mono HP.out ?_
  rintro e w3 ⟨v, rfl, hdg, hb3⟩
  obtain ⟨po, pc, rfl, hpc1, hpc2, hpv, hpg⟩ := hdg.path
  have HPV : Hid (Sm.PathV w3 po (Sm.pathD z ls (x : Int))) := hpv
  have HPC : Hid _ := And.intro hpc1 hpc2
  have HPG : Hid (∀ V, (∀ g o vs, W2.heap.size ≤ g → w3.rangeAt g o vs → V.rangeAt g o vs) → Sm.PathV V po (Sm.pathD z ls (x : Int))) := fun V hV => by
    refine ⟨hpv.1, fun h => ?_⟩
    obtain ⟨g, rfl, hg, hr⟩ := hpg h
    exact ⟨g, 0, rfl, fun k d hd => by rw [Nat.zero_add]; exact hV g _ _ hg (hr k d hd)⟩
  have HB3 : Hid (Below (w.heap.size + 2) W2 w3 ∧ Below w.heap.size w w3) := ⟨by have h := hb3; rw [HF.out.2.2.2] at h; exact h, HF.out.2.2.1.trans (hb3.mono HF.out.2.2.1.size)⟩
  have hbk : w3.heap[w.heap.size + 1]? = some (.cells #[.int .i64 0, .slice none 0 0, .slice none 0 0] 30 (0, 0)) := (HB3.out.1.block _ (by omega)).trans HF.out.2.1
  obtain ⟨hc0, hbs⟩ := HL.out w3 HB3.out.2
  have HBK : Hid _ := hbk
  have HBS : Hid (Sm.Bytes w3 p.ao p.n p.bs) := hbs
  obtain ⟨q, HQ⟩ : ∃ q, Hid ((Sm.pathD z ls (x : Int)).length = q) := ⟨_, rfl⟩
  rw [HQ.out] at HPC
  rw [HQ.out]
  have HXS : Hid (#[Value.int .i64 (x : Int), .slice p.ao p.n p.c, .slice po q pc].all (·.oneCell') = true) := by show _ = _; simp [Value.oneCell']
  clear hpc1 hpc2 hpv hb3 hbk hbs HP hdg hpg
  go_upto_region 2 with fail
  go_wp2_with (refine wpList_store_row rfl 30 (.tmp 6) (.tmp 22) rfl (w.heap.size + 1) #[.int .i64 (x : Int), .slice p.ao p.n p.c, .slice po q pc] rfl rfl 30 #[.int .i64 0, .slice none 0 0, .slice none 0 0] HBK.out size30 rfl HXS.out ?_)
  refine bodyPost_ret (results_cell_row rfl _ _ (w.heap.size + 1) 30 #[.int .i64 (x : Int), .slice p.ao p.n p.c, .slice po q pc] (0, 0) _ rfl (setRow_heap _ _ _ _ _ _ HBK.out) Tryd.underlying30 rfl size30) rfl ?_
  refine ⟨⟨(x : Int), p.ao, p.n, p.c, p.bs, po, q, pc, Sm.pathD z ls (x : Int)⟩, rfl, ?_, rfl, fun p' h => ?_, fun V hV => HPG.out V (fun g o vs hg hr j v hv => hV _ _ (by have := HF.out.2.2.2; show _ ≤ g; omega) (Sm.cell_row_far (hr j v hv) (by have := HF.out.2.2.2; show g ≠ _; omega))), rfl, below_setRow HB3.out.2 (by omega) _⟩
  · exact ⟨(HL.out _ (below_setRow HB3.out.2 (by omega) _)).2, HPN.out.2, HCP.out.1, HCP.out.2, HPN.out.1, HQ.out, HPC.out.1, HPC.out.2, HPG.out _ (fun g o vs hg hr j v hv => Sm.cell_row_far (hr j v hv) (by have := HF.out.2.2.2; show g ≠ _; omega))⟩
  · have := HPP.out; rw [this] at h; cases h; exact ⟨rfl, rfl, rfl⟩
end Go.Proofs.YtecacjddggljgaaDoor
namespace Go.Proofs.YtecacjddggljgaaDoor
open Go.RowKit Go.Sort Go.Shelf
set_option linter.unusedSectionVars false
variable [Inhabited E] [DecidableEq E]
def zeroO : Opn := ⟨0, none, 0, 0, [], none, 0, 0, []⟩
theorem zeroO_V (w : World) : OpnV w zeroO := ⟨⟨rfl, fun i c h => by simp [zeroO] at h⟩, fun _ => rfl, Nat.le_refl _, by simp [zeroO], by simp [zeroO], rfl, Nat.le_refl _, by simp [zeroO], ⟨fun d h => by simp [zeroO] at h, fun h => by simp [zeroO] at h⟩⟩
def zeroP : Array Value := #[.bool false, .int .i64 0, .slice none 0 0, .slice none 0 0, .int .i64 0, .slice none 0 0, .slice none 0 0]
theorem zeroP_one : zeroP.all (·.oneCell') = true := by simp [zeroP, Value.oneCell']
theorem size32 : (Tryd.prog.info? 32).map (·.size) = some 7 := by kernel_rfl
theorem built32z : Tryd.prog.built 32 [] = some zeroP := by kernel_rfl
theorem built32a (a : Int) (lo : Option Addr) (ln lc : Nat) (po : Option Addr) (pn pc : Nat) : Tryd.prog.built 32 [(1, .agg #[.int .i64 a, .slice lo ln lc, .slice po pn pc])] = some #[.bool false, .int .i64 a, .slice lo ln lc, .slice po pn pc, .int .i64 0, .slice none 0 0, .slice none 0 0] := by kernel_rfl
theorem built32b (a : Int) (lo : Option Addr) (ln lc : Nat) (po : Option Addr) (pn pc : Nat) (a2 : Int) (lo2 : Option Addr) (ln2 lc2 : Nat) (po2 : Option Addr) (pn2 pc2 : Nat) : Tryd.prog.built 32 [(0, .bool true), (1, .agg #[.int .i64 a, .slice lo ln lc, .slice po pn pc]), (2, .agg #[.int .i64 a2, .slice lo2 ln2 lc2, .slice po2 pn2 pc2])] = some #[.bool true, .int .i64 a, .slice lo ln lc, .slice po pn pc, .int .i64 a2, .slice lo2 ln2 lc2, .slice po2 pn2 pc2] := by kernel_rfl
theorem results_pt {fn : Func} {p u : Tmp} (h : fn.results = #[.cell p 32, .tmp u]) (tmps : Array Value) (w : World) (g : Nat) (t : TypeId) (cs : Array Value) (fr : Nat × Nat)
    (hp : tmps.getD p undef = .pointer (some ⟨g, 0, none⟩)) (hg : w.heap[g]? = some (.cells cs t fr)) (hi : (Tryd.prog.info? 32).map (·.size) = some cs.size) :
    (results fn tmps).run Tryd.prog w = .ok (.tuple #[.agg cs, tmps.getD u undef]) w := by
  have hp' : tmps[p]?.getD undef = .pointer (some ⟨g, 0, none⟩) := by simpa using hp
  simp [results, h, hp', asAddr, run_loadVar_row w g t 32 cs fr _ hg Tryd.underlying32 rfl hi]
theorem leaf_keep {base : Nat} {W V : World} {v : Value} {ls : List SV} {p : SV} (h : LeavesO base W v ls) (hp : p ∈ ls) (hk : ∀ a u, base ≤ a.block → W.cell? a = some u → V.cell? a = some u) : Sm.Bytes V p.ao p.n p.bs := by
  obtain ⟨ao, c, hv, hby, -, -, -, -, hb⟩ := own_bytes (h.2 p hp)
  cases hv
  refine ⟨hby.1, fun i c hi => ?_⟩
  obtain ⟨x, hx, hc⟩ := hby.2 i c hi
  refine ⟨x, hx, hk _ _ ?_ hc⟩
  have hbx : (x.add i).block = x.block := by unfold Addr.add; split <;> rfl
  rw [hbx]; exact (hb x hx).1
theorem leaf_cap {base : Nat} {W : World} {v : Value} {ls : List SV} {p : SV} (h : LeavesO base W v ls) (hp : p ∈ ls) : p.n ≤ p.c ∧ p.c ≤ 9223372036854775807 := by
  obtain ⟨ao, c, hv, -, -, h1, h2, -⟩ := own_bytes (h.2 p hp)
  cases hv
  exact ⟨h1, by unfold maxLen at h2; omega⟩
theorem one7 (b : Bool) (a a2 : Int) (lo lo2 po po2 : Option Addr) (ln lc ln2 lc2 pn pc pn2 pc2 : Nat) : (#[Value.bool b, .int .i64 a, .slice lo ln lc, .slice po pn pc, .int .i64 a2, .slice lo2 ln2 lc2, .slice po2 pn2 pc2] : Array Value).all (·.oneCell') = true := by simp [Value.oneCell']
theorem OpnV.move {W V : World} {o : Opn} (h : OpnV W o) (hb : Bytes V o.lo o.ln o.bs) (hp : Sm.PathV V o.po o.ds) : OpnV V o := ⟨hb, h.l0, h.l1, h.l2, h.l3, h.len, h.p1, h.p2, hp⟩
theorem kept_far {W4 W : World} {g B : Nat} {cs : Array Value} (h : Below W4.heap.size W4 W) (hg : g < B) : ∀ a u, B ≤ a.block → W4.cell? a = some u → (W.setRow g cs).cell? a = some u := fun a u ha hc =>
  Sm.cell_row_far (by rw [World.cell?_of_block (h.block _ (World.block_lt_of_cell? W4 a hc))]; exact hc) (by omega)
/-- An opening is kept where a row is set that is older than its leaves and its path. -/
theorem opn_fin {base g B5 : Nat} {w4 w6 W : World} {v : Value} {ls : List SV} {p : SV} {o : Opn} {x : Nat} (hLO : LeavesO base w4 v ls) (hp : ls[x]? = some p) (hV : OpnV w6 o) (hl : o.bs = p.bs ∧ o.lo = p.ao ∧ o.ln = p.n) (hpk : ∀ V : World, (∀ a v, B5 ≤ a.block → w6.cell? a = some v → V.cell? a = some v) → Sm.PathV V o.po o.ds) (h4 : Below w4.heap.size w4 W) (h6 : Below w6.heap.size w6 W) (hg : g < base) (hg5 : g < B5) (cs : Array Value) : OpnV (W.setRow g cs) o := by
  refine hV.move ?_ (hpk _ (kept_far h6 hg5))
  rw [hl.1, hl.2.1, hl.2.2]
  exact leaf_keep hLO (List.mem_of_getElem? hp) (kept_far h4 hg)
/-- What is known of an opening: its place, its leaf's bytes, its path. -/
def opnIs (z : Int) (ls : List Sm.LV) (x : Nat) (o : Opn) : Prop := o.at_ = (x : Int) ∧ (Sm.bytesL ls)[x]? = some o.bs ∧ o.ds = Sm.pathD z ls (x : Int)
def proveS (z : Int) (es : List E) (key : ByteArray) (bt : Bool) (A B : Opn) (er : Int) : Prop :=
  if fitB es = true then
    (if covB es[0]!.key es[es.length - 1]!.key key = true then
      ∃ ls, Sm.bytesL ls = es.map bytesB ∧ er = 0 ∧ bt = !isIn key es ∧
        (if isIn key es = true then opnIs z ls (belowN key es) A ∧ B = zeroO else 1 ≤ belowN key es ∧ opnIs z ls (belowN key es - 1) A ∧ opnIs z ls (belowN key es) B)
    else er = 5 ∧ bt = false ∧ A = zeroO ∧ B = zeroO)
  else er = 1 ∧ bt = false ∧ A = zeroO ∧ B = zeroO
theorem isIn_below {key : ByteArray} {es : List E} (h : isIn key es = true) : belowN key es < es.length := by
  unfold isIn at h
  obtain ⟨e, he, hk⟩ := List.any_eq_true.1 h
  have hk' : e.key = key := by simpa using hk
  unfold belowN
  rcases Nat.lt_or_ge (es.countP fun e => decide (cmpS e.key key < 0)) es.length with h1 | h1
  · exact h1
  · have h2 := List.countP_eq_length.1 (Nat.le_antisymm List.countP_le_length h1) e he
    simp only [decide_eq_true_eq] at h2
    rw [hk'] at h2
    have := (cmpS_eq (a := key) (b := key)).2 rfl
    omega
theorem cov_below {key : ByteArray} {es : List E} (h1 : 1 ≤ es.length) (hc : covB es[0]!.key es[es.length - 1]!.key key = true) (h : isIn key es = false) : 1 ≤ belowN key es ∧ belowN key es < es.length := by
  unfold covB at hc
  simp only [Bool.and_eq_true, decide_eq_true_eq] at hc
  have hne : ∀ e ∈ es, cmpS e.key key ≠ 0 := fun e he h0 => by
    have h2 : (decide (e.key = key)) = true := decide_eq_true (cmpS_eq.1 h0)
    unfold isIn at h
    rw [List.any_eq_false] at h
    exact h e he h2
  have m0 : es[0]! ∈ es := by rw [getElem!_pos es 0 (by omega)]; exact List.getElem_mem _
  have m1 : es[es.length - 1]! ∈ es := by rw [getElem!_pos es (es.length - 1) (by omega)]; exact List.getElem_mem _
  unfold belowN
  constructor
  · exact List.countP_pos_iff.2 ⟨_, m0, by have := hne _ m0; simp only [decide_eq_true_eq]; omega⟩
  · rcases Nat.lt_or_ge (es.countP fun e => decide (cmpS e.key key < 0)) es.length with h3 | h3
    · exact h3
    · have h4 := List.countP_eq_length.1 (Nat.le_antisymm List.countP_le_length h3) _ m1
      simp only [decide_eq_true_eq] at h4
      have h5 := (cmpS_ord.anti es[es.length - 1]!.key key).1 h4
      omega
set_option maxRecDepth 100000 in
set_option maxHeartbeats 4000000 in
theorem prove_any (z : Int) (ao : Option Addr) (n c : Nat) (es : List E) (key : ByteArray) (w : World) (hE : EntsV w ao n es) (hsm : Small es) (hn : n ≤ 1000) (hK : Sm.WW w 1 Sm.ks) (hz0 : 1 < w.heap.size) (hz : -9223372036854775808 ≤ z ∧ z ≤ 9223372036854775807) :
    Calls Tryd.prog 12 #[.agg #[.int .i64 z], .slice ao n c, .string key] w fun e w' => ∃ bt A B er, e = .returned (.tuple #[.agg (pointC bt A B), .int .i64 er]) ∧ OpnV w' A ∧ OpnV w' B ∧ proveS z es key bt A B er ∧ Below w.heap.size w w' := by
  have hlen := hE.1
  obtain ⟨W2, HW2⟩ : ∃ W, Hid (W = (w.alloc (.cells #[.int .i64 z] 26)).alloc (.cells #[.bool false, .int .i64 0, .slice none 0 0, .slice none 0 0, .int .i64 0, .slice none 0 0, .slice none 0 0] 32)) := ⟨_, rfl⟩
  have HF2 : Hid (W2.heap[w.heap.size]? = some (.cells #[.int .i64 z] 26 (0, 0)) ∧ W2.heap[w.heap.size + 1]? = some (.cells zeroP 32 (0, 0)) ∧ Below w.heap.size w W2 ∧ W2.heap.size = w.heap.size + 2) := by
    show _ ∧ _
    rw [HW2.out]; exact Sm.frame2 w _ _ _
  have HFT : Hid (∀ W, Below w.heap.size w W → Calls Tryd.prog 36 #[.slice ao n c] W fun e w' => e = .returned (.bool (fitB es)) ∧ Below W.heap.size W w') := fun W hW => fitT_any ao n c es W (hE.below hW (Nat.le_refl _)) hsm (by omega)
  have HEN : Hid (fitB es = true → ∀ W, Below w.heap.size w W → Calls Tryd.prog 37 #[.slice ao n c] W fun e w' => e = .returned (.agg (tabC 0 0 (List.replicate 32 0) es[0]!.key es[es.length - 1]!.key)) ∧ Below W.heap.size W w') := fun hf W hW => by
    have h1 := (fit_len hf).1
    obtain ⟨b, off, h2, -⟩ := hE.2 (by omega)
    subst h2
    exact ends_any b off n c es W (hE.below hW (Nat.le_refl _)) (by omega) hn
  have HLV : Hid (∀ W, Below w.heap.size w W → Calls Tryd.prog 32 #[.slice ao n c] W fun e w' => ∃ v, e = .returned v ∧ ∃ ls, LeavesO W.heap.size w' v ls ∧ ls.map SV.bs = es.map bytesB ∧ Below W.heap.size W w') := fun W hW => leavesT_any ao n c es W (hE.below hW (Nat.le_refl _)) hsm hn
  have HFD : Hid (∀ W, Below w.heap.size w W → Calls Tryd.prog 31 #[.slice ao n c, .string key] W fun e w' => e = .returned (.tuple #[.int .i64 (belowN key es : Nat), .bool (isIn key es)]) ∧ Below W.heap.size W w') := fun W hW => find_any ao n c es key W (hE.below hW (Nat.le_refl _)) (by omega)
  have HCV : Hid (∀ W, Calls Tryd.prog 18 #[.agg (tabC 0 0 (List.replicate 32 0) es[0]!.key es[es.length - 1]!.key), .string key] W fun e w' => e = .returned (.bool (covB es[0]!.key es[es.length - 1]!.key key)) ∧ Below W.heap.size W w') := fun W => covers_any _ _ _ key W (tabC_at 0 0 (by simp) _ _).2.2.1 (tabC_at 0 0 (by simp) _ _).2.2.2
  have HOP : Hid (∀ W ao2 c2 ls (x : Nat), Below w.heap.size w W → Sm.LeavesV W ao2 n c2 ls → (∀ p ∈ ls, p.n ≤ p.c ∧ p.c ≤ 9223372036854775807) → x < n → Calls Tryd.prog 38 #[.agg #[.int .i64 z], .slice ao2 n c2, .int .i64 (x : Int)] W fun e w' => ∃ o : Opn, e = .returned (.agg o.cells) ∧ OpnV w' o ∧ o.at_ = (x : Int) ∧ (∀ p, ls[x]? = some p → o.bs = p.bs ∧ o.lo = p.ao ∧ o.ln = p.n) ∧ (∀ V : World, (∀ a v, W.heap.size ≤ a.block → w'.cell? a = some v → V.cell? a = some v) → Sm.PathV V o.po o.ds) ∧ o.ds = Sm.pathD z ls (x : Int) ∧ Below W.heap.size W w') := fun W ao2 c2 ls x hW hL hcp hx => open_any z ao2 n c2 ls x W hL hcp hn hx (hK.below hW hz0) (Nat.lt_of_lt_of_le hz0 hW.size) hz
  have HSP : Hid (∀ bt A B er, (if fitB es = true then (if covB es[0]!.key es[es.length - 1]!.key key = true then ∃ ls, Sm.bytesL ls = es.map bytesB ∧ er = 0 ∧ bt = !isIn key es ∧ (if isIn key es = true then opnIs z ls (belowN key es) A ∧ B = zeroO else 1 ≤ belowN key es ∧ opnIs z ls (belowN key es - 1) A ∧ opnIs z ls (belowN key es) B) else er = 5 ∧ bt = false ∧ A = zeroO ∧ B = zeroO) else er = 1 ∧ bt = false ∧ A = zeroO ∧ B = zeroO) → proveS z es key bt A B er) := fun bt A B er h => h
  have HBI : Hid (isIn key es = true → belowN key es < n) := fun h => by rw [← hlen]; exact isIn_below h
  have HBO : Hid (fitB es = true → covB es[0]!.key es[es.length - 1]!.key key = true → isIn key es = false → 1 ≤ belowN key es ∧ belowN key es < n) := fun h1 h2 h3 => by rw [← hlen]; exact cov_below (fit_len h1).1 h2 h3
  have HN : Hid (n ≤ 1000 ∧ es.length = n) := ⟨hn, hlen⟩
  have HBB : Hid (∀ p ∈ es.map bytesB, p.length ≤ 2000) := fun p hp => by obtain ⟨e, -, he⟩ := List.mem_map.1 hp; rw [← he]; exact bytesB_len3 e
  obtain ⟨T, HT⟩ : ∃ t, Hid (tabC 0 0 (List.replicate 32 0) es[0]!.key es[es.length - 1]!.key = t) := ⟨_, rfl⟩
  rw [HT.out] at HEN HCV
  obtain ⟨f, HFF⟩ : ∃ b, Hid (fitB es = b) := ⟨_, rfl⟩
  obtain ⟨cv, HCC⟩ : ∃ b, Hid (covB es[0]!.key es[es.length - 1]!.key key = b) := ⟨_, rfl⟩
  obtain ⟨ii, HII⟩ : ∃ b, Hid (isIn key es = b) := ⟨_, rfl⟩
  obtain ⟨q, HQQ⟩ : ∃ b, Hid (belowN key es = b) := ⟨_, rfl⟩
  rw [HFF.out] at HFT HEN HSP HBO
  rw [HCC.out] at HCV HSP HBO
  rw [HII.out] at HFD HSP HBI HBO
  rw [HQQ.out] at HFD HSP HBI HBO
  generalize proveS z es key = PS at *
  clear hE hsm hn hK hz0 hz hlen
  go_enter Tryd.func12, Tryd.ntmps12
  go_upto_region 1 with fail
  rw [← HW2.out]
  go_wp2_with fail
  refine (HFT.out W2 HF2.out.2.2.1).mono ?_
  rintro e w1 ⟨rfl, hb1⟩
  have HB1 : Hid (Below (w.heap.size + 2) W2 w1 ∧ Below w.heap.size w w1) := ⟨by have h := hb1; rw [HF2.out.2.2.2] at h; exact h, HF2.out.2.2.1.trans (hb1.mono HF2.out.2.2.1.size)⟩
  have HR : Hid (∀ V, Below (w.heap.size + 2) W2 V → V.heap[w.heap.size]? = some (.cells #[.int .i64 z] 26 (0, 0)) ∧ V.heap[w.heap.size + 1]? = some (.cells zeroP 32 (0, 0))) := fun V hV => ⟨(hV.block _ (by omega)).trans HF2.out.1, (hV.block _ (by omega)).trans HF2.out.2.1⟩
  clear hb1 HFT
  cases f with
  | false =>
    have h0 := HSP.out false zeroO zeroO 1 ⟨rfl, rfl, rfl, rfl⟩
    have H0 : Hid _ := h0
    clear h0
    go_upto_region 2 with fail
    go_wp2_with (refine wpList_store_row rfl 32 (.tmp 6) (.tmp 14) rfl (w.heap.size + 1) zeroP rfl rfl 32 zeroP (HR.out _ HB1.out.1).2 size32 rfl zeroP_one ?_)
    refine bodyPost_ret (results_pt rfl _ _ (w.heap.size + 1) 32 zeroP (0, 0) rfl (setRow_heap _ _ _ _ _ _ (HR.out _ HB1.out.1).2) size32) rfl ?_
    exact ⟨false, zeroO, zeroO, 1, rfl, zeroO_V _, zeroO_V _, H0.out, below_setRow HB1.out.2 (by omega) _⟩
  | true =>
    go_upto_region 3 with fail
    go_wp2_with fail
    refine (HEN.out (by trivial) w1 HB1.out.2).mono ?_
    rintro e w2 ⟨rfl, hb2⟩
    have HB2 : Hid (Below (w.heap.size + 2) W2 w2 ∧ Below w.heap.size w w2) := ⟨HB1.out.1.trans (hb2.mono (by have := HB1.out.1.size; have := HF2.out.2.2.2; omega)), HB1.out.2.trans (hb2.mono HB1.out.2.size)⟩
    clear hb2 HEN
    go_wp2_with fail
    refine (HCV.out w2).mono ?_
    rintro e w3 ⟨rfl, hb3⟩
    have HB3 : Hid (Below (w.heap.size + 2) W2 w3 ∧ Below w.heap.size w w3) := ⟨HB2.out.1.trans (hb3.mono (by have := HB2.out.1.size; have := HF2.out.2.2.2; omega)), HB2.out.2.trans (hb3.mono HB2.out.2.size)⟩
    clear hb3 HCV
    cases cv with
    | false =>
      have h0 := HSP.out false zeroO zeroO 5 ⟨rfl, rfl, rfl, rfl⟩
      have H0 : Hid _ := h0
      clear h0
      go_upto_region 4 with fail
      go_wp2_with (refine wpList_store_row rfl 32 (.tmp 6) (.tmp 20) rfl (w.heap.size + 1) zeroP rfl rfl 32 zeroP (HR.out _ HB3.out.1).2 size32 rfl zeroP_one ?_)
      refine bodyPost_ret (results_pt rfl _ _ (w.heap.size + 1) 32 zeroP (0, 0) rfl (setRow_heap _ _ _ _ _ _ (HR.out _ HB3.out.1).2) size32) rfl ?_
      exact ⟨false, zeroO, zeroO, 5, rfl, zeroO_V _, zeroO_V _, H0.out, below_setRow HB3.out.2 (by omega) _⟩
    | true =>
      go_upto_region 5 with fail
      go_wp2_with fail
      refine (HLV.out w3 HB3.out.2).mono ?_
      rintro e w4 ⟨v4, rfl, ls, hLO, hbs, hb4⟩
      have hbs2 : ∀ p ∈ ls, p.bs.length ≤ 2000 := fun p hp => HBB.out _ (by rw [← hbs]; exact List.mem_map_of_mem hp)
      obtain ⟨ao2, c2, hv4, hLV, hbl⟩ := leavesO_V hLO hbs2
      have hll : ls.length = n := by
        have h1 := congrArg List.length hbs
        simp only [List.length_map] at h1
        rw [h1]; exact HN.out.2
      rw [hll] at hv4 hLV
      subst hv4
      have HLO : Hid _ := hLO
      have HLVV : Hid _ := hLV
      have HBL : Hid (Sm.bytesL (ls.map toLV) = es.map bytesB) := by show _ = _; rw [hbl, hbs]
      have HLL : Hid _ := hll
      have HB4 : Hid (Below (w.heap.size + 2) W2 w4 ∧ Below w.heap.size w w4 ∧ Below w3.heap.size w3 w4) := ⟨HB3.out.1.trans (hb4.mono (by have := HB3.out.1.size; have := HF2.out.2.2.2; omega)), HB3.out.2.trans (hb4.mono HB3.out.2.size), hb4⟩
      have HS3 : Hid (w.heap.size + 2 ≤ w3.heap.size) := by have := HB3.out.1.size; have := HF2.out.2.2.2; show _ ≤ _; omega
      clear hb4 hLO hLV hbl hbs hll hbs2 HLV HBB
      go_upto_region 6 with fail
      go_wp2_with fail
      refine (HFD.out w4 HB4.out.2.1).mono ?_
      rintro e w5 ⟨rfl, hb5⟩
      have HB5 : Hid (Below (w.heap.size + 2) W2 w5 ∧ Below w.heap.size w w5 ∧ Below w4.heap.size w4 w5) := ⟨HB4.out.1.trans (hb5.mono (by have := HB4.out.1.size; have := HF2.out.2.2.2; omega)), HB4.out.2.1.trans (hb5.mono HB4.out.2.1.size), hb5⟩
      clear hb5 HFD
      cases ii with
      | true =>
        have hqn := HBI.out (by trivial)
        have HO1 : Hid _ := HOP.out w5 ao2 c2 (ls.map toLV) q HB5.out.2.1 (Sm.LeavesV.below HLVV.out HB5.out.2.2 (Nat.le_refl _)) (fun p hp => by obtain ⟨x, hx, rfl⟩ := List.mem_map.1 hp; exact leaf_cap HLO.out hx) hqn
        obtain ⟨p, hp⟩ : ∃ p, ls[q]? = some p := ⟨_, List.getElem?_eq_getElem (by have := HLL.out; omega)⟩
        have HSQ : Hid (∀ A, opnIs z (ls.map toLV) q A → PS false A zeroO 0) := fun A h => HSP.out false A zeroO 0 (by
          refine (if_pos (by trivial)).mpr ((if_pos (by trivial)).mpr ⟨_, HBL.out, by trivial, by trivial, (if_pos (by trivial)).mpr ⟨h, by trivial⟩⟩))
        have HPP : Hid (ls[q]? = some p) := hp
        clear hqn hp HOP HSP HBI HBO
        go_upto_region 8 with fail
        go_wp2_with (refine wpList_load_row rfl 26 (.tmp 3) rfl w.heap.size rfl 26 #[.int .i64 z] (0, 0) _ (HR.out _ HB5.out.1).1 Tryd.underlying26 rfl size26 ?_)
        refine Calls.mono HO1.out ?_
        rintro e w6 ⟨⟨a, lo, ln, lc, bs, po, pn, pc, ds⟩, rfl, hV, hat, hlf, hpk, hds, hb6⟩
        have hl2 := hlf (toLV p) (by rw [List.getElem?_map, HPP.out]; rfl)
        have HB6 : Hid (Below (w.heap.size + 2) W2 w6 ∧ Below w.heap.size w w6 ∧ Below w4.heap.size w4 w6 ∧ w.heap.size + 2 ≤ w5.heap.size) := by
          have h1 := HB5.out.1.size
          have h2 := HF2.out.2.2.2
          exact ⟨HB5.out.1.trans (hb6.mono (by omega)), HB5.out.2.1.trans (hb6.mono HB5.out.2.1.size), HB5.out.2.2.trans (hb6.mono HB5.out.2.2.size), by omega⟩
        have HFIN : Hid (∀ cs, OpnV (w6.setRow (w.heap.size + 1) cs) ⟨a, lo, ln, lc, bs, po, pn, pc, ds⟩) := fun cs => by
          exact opn_fin HLO.out HPP.out hV hl2 hpk HB6.out.2.2.1 (Below.refl _ _) (by have := HS3.out; omega) (by have := HB6.out.2.2.2; omega) cs
        have HSPC : Hid (PS false ⟨a, lo, ln, lc, bs, po, pn, pc, ds⟩ zeroO 0) := HSQ.out _ ⟨hat, by have e1 : bs = p.bs := hl2.1; show _ = some bs; rw [e1]; unfold Sm.bytesL; rw [List.getElem?_map, List.getElem?_map, HPP.out]; rfl, hds⟩
        have HONE : Hid _ := one7 false a 0 lo none po none ln lc 0 0 pn pc 0 0
        have hpos : (w6.setRow (w.heap.size + 1) zeroP) = (w6.setRow (w.heap.size + 1) zeroP) := rfl
        clear hpos hV hat hlf hpk hds hb6 hl2 HSQ HO1
        simp only [Opn.cells]
        go_wp2_with (refine wpList_store_row rfl 32 (.tmp 6) (.tmp 34) rfl (w.heap.size + 1) #[.bool false, .int .i64 a, .slice lo ln lc, .slice po pn pc, .int .i64 0, .slice none 0 0, .slice none 0 0] rfl rfl 32 zeroP (HR.out _ HB6.out.1).2 size32 rfl HONE.out ?_)
        refine bodyPost_ret (results_pt rfl _ _ (w.heap.size + 1) 32 #[.bool false, .int .i64 a, .slice lo ln lc, .slice po pn pc, .int .i64 0, .slice none 0 0, .slice none 0 0] (0, 0) rfl (setRow_heap _ _ _ _ _ _ (HR.out _ HB6.out.1).2) size32) rfl ?_
        exact ⟨false, _, zeroO, 0, rfl, HFIN.out _, zeroO_V _, HSPC.out, below_setRow HB6.out.2.1 (by omega) _⟩
      | false =>
        have hqn := HBO.out (by trivial) (by trivial) (by trivial)
        obtain ⟨m, rfl⟩ : ∃ m, q = m + 1 := ⟨q - 1, by omega⟩
        have hmn : m < n ∧ m + 1 < n := ⟨by omega, hqn.2⟩
        have HCP : Hid (∀ p ∈ ls.map toLV, p.n ≤ p.c ∧ p.c ≤ 9223372036854775807) := fun p hp => by obtain ⟨x, hx, rfl⟩ := List.mem_map.1 hp; exact leaf_cap HLO.out hx
        have HO1 : Hid (∀ W, Below w5.heap.size w5 W → Calls Tryd.prog 38 #[.agg #[.int .i64 z], .slice ao2 n c2, .int .i64 (m : Int)] W _) := fun W hW => HOP.out W ao2 c2 (ls.map toLV) m (HB5.out.2.1.trans (hW.mono HB5.out.2.1.size)) (Sm.LeavesV.below HLVV.out (HB5.out.2.2.trans (hW.mono HB5.out.2.2.size)) (Nat.le_refl _)) HCP.out hmn.1
        have HO2 : Hid (∀ W, Below w5.heap.size w5 W → Calls Tryd.prog 38 #[.agg #[.int .i64 z], .slice ao2 n c2, .int .i64 ((m : Int) + 1)] W _) := fun W hW => HOP.out W ao2 c2 (ls.map toLV) (m + 1) (HB5.out.2.1.trans (hW.mono HB5.out.2.1.size)) (Sm.LeavesV.below HLVV.out (HB5.out.2.2.trans (hW.mono HB5.out.2.2.size)) (Nat.le_refl _)) HCP.out hmn.2
        obtain ⟨p, hp⟩ : ∃ p, ls[m]? = some p := ⟨_, List.getElem?_eq_getElem (by have := HLL.out; omega)⟩
        obtain ⟨p2, hp2⟩ : ∃ p, ls[m + 1]? = some p := ⟨_, List.getElem?_eq_getElem (by have := HLL.out; omega)⟩
        have HPP : Hid (ls[m]? = some p ∧ ls[m + 1]? = some p2) := ⟨hp, hp2⟩
        have HSQ : Hid (∀ A B, opnIs z (ls.map toLV) m A → opnIs z (ls.map toLV) (m + 1) B → PS true A B 0) := fun A B h h2 => HSP.out true A B 0 (by
          refine (if_pos (by trivial)).mpr ((if_pos (by trivial)).mpr ⟨_, HBL.out, by trivial, by trivial, (if_neg (by simp)).mpr ⟨by omega, h, h2⟩⟩))
        have hm1000 := HN.out.1
        have hm2 : IntKind.i64.wrap ((m : Int) + 1 - 1) = (m : Int) := by rw [IntKind.wrap_i64]; omega
        have hm7 : IntKind.i64.wrap (m : Int) = (m : Int) := by rw [IntKind.wrap_i64]; omega
        have hm8 : wrap64 ((m : Int) + 1 - 1) = (m : Int) := by unfold wrap64; omega
        have hm9 : wrap64 (m : Int) = (m : Int) := by unfold wrap64; omega
        have HS5 : Hid (∀ W, Below w5.heap.size w5 W → W.cell? ⟨w.heap.size, 0, none⟩ = some (.int .i64 z)) := fun W hW => by
          have h1 : W.heap[w.heap.size]? = some (.cells #[Value.int IntKind.i64 z] 26 (0, 0)) := (hW.block _ (by have := HB5.out.1.size; have := HF2.out.2.2.2; omega)).trans (HR.out _ HB5.out.1).1
          rw [cell_of_row _ _ _ _ _ _ h1]; rfl
        have HW5 : Hid (w.heap.size + 2 ≤ w5.heap.size) := by have h1 := HB5.out.1.size; have h2 := HF2.out.2.2.2; show _ ≤ _; omega
        clear hqn hp hp2 HOP HSP HBI HBO hmn hm1000
        go_upto_region 9 with fail
        refine wp_region_held_drew (S := fun W => W.cell? ⟨w.heap.size, 0, none⟩ = some (.int .i64 z)) (by kernel_rfl) (HS5.out _ (Below.drew (Below.refl _ _))) (fun hS => ?_)
        refine wpAnyH_take (i := 0) (v := ?_) rfl (by kernel_rfl) (by kernel_rfl) (by kernel_rfl) (fun _ _ _ h => h) (Or.inl ⟨by rfl, ?_⟩) (by assumption) ?_
        rotate_left
        · (intro w hSw; (try dsimp only at hSw); go_simp; try with_reducible rfl)
        simp only [Act.put, List.getElem_toArray, List.getElem_cons_zero, List.setIfInBounds_toArray, List.set_cons_zero, List.set_cons_succ]
        refine wpAnyH_take (i := 1) (v := ?_) rfl (by kernel_rfl) (by kernel_rfl) (by kernel_rfl) (fun _ _ _ h => h) (Or.inl ⟨by rfl, ?_⟩) (by assumption) ?_
        rotate_left
        · (intro w hSw; (try dsimp only at hSw); go_simp; try with_reducible rfl)
        simp only [Act.put, List.getElem_toArray, List.getElem_cons_zero, List.getElem_cons_succ, List.setIfInBounds_toArray, List.set_cons_zero, List.set_cons_succ]
        refine wpAnyH_take (i := 2) (v := ?_) rfl (by kernel_rfl) (by kernel_rfl) (by kernel_rfl) (fun _ _ _ h => h) (Or.inl ⟨by rfl, ?_⟩) (by assumption) ?_
        rotate_left
        · (intro w hSw; (try dsimp only at hSw); go_simp; try with_reducible rfl)
        simp only [Act.put, List.getElem_toArray, List.getElem_cons_zero, List.getElem_cons_succ, List.setIfInBounds_toArray, List.set_cons_zero, List.set_cons_succ]
        refine wpAnyH_take (i := 3) (v := ?_) rfl (by kernel_rfl) (by kernel_rfl) (by kernel_rfl) (fun _ _ _ h => h) (Or.inl ⟨by rfl, ?_⟩) (by assumption) ?_
        rotate_left
        · (intro w hSw; (try dsimp only at hSw); go_simp; try with_reducible rfl)
        simp only [Act.put, List.getElem_toArray, List.getElem_cons_zero, List.getElem_cons_succ, List.setIfInBounds_toArray, List.set_cons_zero, List.set_cons_succ]
        refine wpAnyH_take (i := 5) (v := ?_) rfl (by kernel_rfl) (by kernel_rfl) (by kernel_rfl) (fun _ _ _ h => h) (Or.inl ⟨by rfl, ?_⟩) (by assumption) ?_
        rotate_left
        · (intro w hSw; (try dsimp only at hSw); go_simp; try with_reducible rfl)
        simp only [Act.put, List.getElem_toArray, List.getElem_cons_zero, List.getElem_cons_succ, List.setIfInBounds_toArray, List.set_cons_zero, List.set_cons_succ]
        refine wpAnyH_take (i := 6) (v := ?_) rfl (by kernel_rfl) (by kernel_rfl) (by kernel_rfl) (fun _ _ _ h => h) (Or.inl ⟨by rfl, ?_⟩) (by assumption) ?_
        rotate_left
        · (intro w hSw; (try dsimp only at hSw); go_simp; try with_reducible rfl)
        simp only [Act.put, List.getElem_toArray, List.getElem_cons_zero, List.getElem_cons_succ, List.setIfInBounds_toArray, List.set_cons_zero, List.set_cons_succ]
        refine wpAnyH_take (i := 7) (v := ?_) rfl (by kernel_rfl) (by kernel_rfl) (by kernel_rfl) (fun _ _ _ h => h) (Or.inl ⟨by rfl, ?_⟩) (by assumption) ?_
        rotate_left
        · (intro w hSw; (try dsimp only at hSw); go_simp; try with_reducible rfl)
        simp only [Act.put, List.getElem_toArray, List.getElem_cons_zero, List.getElem_cons_succ, List.setIfInBounds_toArray, List.set_cons_zero, List.set_cons_succ]
        refine wpAnyH_ready (rs := [4]) (by kernel_rfl) (by simp) ?_
        refine AllReadyH.cons rfl (fun K hK => ?_) AllReadyH.nil
        go_simp
        refine Calls.mono (HO1.out _ (Below.drew (Below.refl _ _))) ?_
        rintro e w6 ⟨⟨a, lo, ln, lc, bs, po, pn, pc, ds⟩, rfl, hV, hat, hlf, hpk, hds, hb6⟩
        have hl2 := hlf (toLV p) (by rw [List.getElem?_map, HPP.out.1]; rfl)
        have HV1 : Hid _ := hV
        have HAT1 : Hid _ := hat
        have HL1 : Hid _ := hl2
        have HPK1 : Hid _ := hpk
        have HDS1 : Hid _ := hds
        clear hV hat hlf hpk hds hl2
        have HB6 : Hid (Below w5.heap.size w5 w6) := (Below.drew (Below.refl _ w5)).trans hb6
        go_wp2_with fail
        refine hK.out _ _ (HS5.out _ HB6.out) (fun hHeld2 => ?_)
        clear hK K
        refine wpAnyH_ready (rs := [8]) (by kernel_rfl) (by simp) ?_
        refine AllReadyH.cons rfl (fun K hK => ?_) AllReadyH.nil
        go_simp
        refine Calls.mono (HO2.out _ HB6.out) ?_
        rintro e w7 ⟨⟨a2, lo2, ln2, lc2, bs2, po2, pn2, pc2, ds2⟩, rfl, hV2, hat2, hlf2, hpk2, hds2, hb7⟩
        have hl3 := hlf2 (toLV p2) (by rw [List.getElem?_map, HPP.out.2]; rfl)
        have HV2 : Hid _ := hV2
        have HAT2 : Hid _ := hat2
        have HL2 : Hid _ := hl3
        have HPK2 : Hid _ := hpk2
        have HDS2 : Hid _ := hds2
        clear hV2 hat2 hlf2 hpk2 hds2 hl3
        have HB7 : Hid (Below w5.heap.size w5 w7 ∧ Below w6.heap.size w6 w7 ∧ Below w4.heap.size w4 w7 ∧ Below (w.heap.size + 2) W2 w7 ∧ Below w.heap.size w w7) := by
          have h1 := HW5.out
          have h2 := HB6.out.size
          have h3 := HB5.out.2.2.size
          have h4 := HB5.out.2.1.size
          have h5 : Below w5.heap.size w5 w7 := HB6.out.trans (hb7.mono h2)
          exact ⟨h5, hb7, HB5.out.2.2.trans (h5.mono h3), HB5.out.1.trans (h5.mono h1), HB5.out.2.1.trans (h5.mono h4)⟩
        go_wp2_with fail
        refine hK.out _ _ (HS5.out _ HB7.out.1) (fun hHeld3 => ?_)
        clear hK K
        have HFIN : Hid (∀ cs, OpnV (w7.setRow (w.heap.size + 1) cs) ⟨a, lo, ln, lc, bs, po, pn, pc, ds⟩ ∧ OpnV (w7.setRow (w.heap.size + 1) cs) ⟨a2, lo2, ln2, lc2, bs2, po2, pn2, pc2, ds2⟩) := fun cs =>
          ⟨opn_fin HLO.out HPP.out.1 HV1.out HL1.out HPK1.out HB7.out.2.2.1 HB7.out.2.1 (by have := HS3.out; omega) (by have := HW5.out; show _ < w5.heap.size; omega) cs,
           opn_fin HLO.out HPP.out.2 HV2.out HL2.out HPK2.out HB7.out.2.2.1 (Below.refl _ _) (by have := HS3.out; omega) (by have := HW5.out; have := HB6.out.size; omega) cs⟩
        have HSPC : Hid (PS true ⟨a, lo, ln, lc, bs, po, pn, pc, ds⟩ ⟨a2, lo2, ln2, lc2, bs2, po2, pn2, pc2, ds2⟩ 0) := HSQ.out _ _
          ⟨HAT1.out, by have e1 : bs = p.bs := HL1.out.1; show _ = some bs; rw [e1]; unfold Sm.bytesL; rw [List.getElem?_map, List.getElem?_map, HPP.out.1]; rfl, HDS1.out⟩
          ⟨HAT2.out, by have e1 : bs2 = p2.bs := HL2.out.1; show _ = some bs2; rw [e1]; unfold Sm.bytesL; rw [List.getElem?_map, List.getElem?_map, HPP.out.2]; rfl, HDS2.out⟩
        have HONE : Hid _ := one7 true a a2 lo lo2 po po2 ln lc ln2 lc2 pn pc pn2 pc2
        have HR7 : Hid (w7.heap[w.heap.size + 1]? = some (.cells zeroP 32 (0, 0))) := (HR.out _ HB7.out.2.2.2.1).2
        clear hb6 hb7 HSQ HO1 HO2
        simp only [Opn.cells]
        refine wpAnyH_take (i := 9) (v := .agg #[.bool true, .int .i64 a, .slice lo ln lc, .slice po pn pc, .int .i64 a2, .slice lo2 ln2 lc2, .slice po2 pn2 pc2]) rfl (by kernel_rfl) (by kernel_rfl) (by kernel_rfl) (fun _ _ _ h => h) (yieldsIf_build (by rfl) 32 #[(0, .const (.bool true)), (1, .tmp 39), (2, .tmp 43)] rfl #[.bool true, .int .i64 a, .slice lo ln lc, .slice po pn pc, .int .i64 a2, .slice lo2 ln2 lc2, .slice po2 pn2 pc2] _ (built32b a lo ln lc po pn pc a2 lo2 ln2 lc2 po2 pn2 pc2) rfl) (by assumption) ?_
        simp only [Act.put, List.getElem_toArray, List.getElem_cons_zero, List.getElem_cons_succ, List.setIfInBounds_toArray, List.set_cons_zero, List.set_cons_succ]
        refine wpAnyH_ready (rs := [10]) (by kernel_rfl) (by simp) ?_
        refine AllReadyH.cons rfl (fun K hK => ?_) AllReadyH.nil
        rw [if_pos (by rfl)]
        refine wp_store_row 32 (.tmp 6) (.tmp 44) rfl (w.heap.size + 1) #[.bool true, .int .i64 a, .slice lo ln lc, .slice po pn pc, .int .i64 a2, .slice lo2 ln2 lc2, .slice po2 pn2 pc2] rfl rfl 32 zeroP HR7.out size32 rfl HONE.out ?_
        refine hK.out _ _ (Sm.cell_row_far (HS5.out _ HB7.out.1) (by show w.heap.size ≠ w.heap.size + 1; omega)) (fun hHeld4 => ?_)
        clear hK K
        simp only [Act.put, List.getElem_toArray, List.getElem_cons_zero, List.getElem_cons_succ]
        refine wpAnyH_take (i := 11) (v := ?_) rfl (by kernel_rfl) (by kernel_rfl) (by kernel_rfl) (fun _ _ _ h => h) (Or.inl ⟨by rfl, ?_⟩) (by assumption) ?_
        rotate_left
        · (intro w hSw; (try dsimp only at hSw); go_simp; try with_reducible rfl)
        simp only [Act.put, List.getElem_toArray, List.getElem_cons_zero, List.getElem_cons_succ, List.setIfInBounds_toArray, List.set_cons_zero, List.set_cons_succ]
        refine wpAnyH_done (by kernel_rfl) ?_ _
        clear hS hHeld2 hHeld3 hHeld4
        go_wp2_with fail
        refine bodyPost_ret (results_pt rfl _ _ (w.heap.size + 1) 32 #[.bool true, .int .i64 a, .slice lo ln lc, .slice po pn pc, .int .i64 a2, .slice lo2 ln2 lc2, .slice po2 pn2 pc2] (0, 0) rfl (setRow_heap _ _ _ _ _ _ HR7.out) size32) rfl ?_
        exact ⟨true, _, _, 0, rfl, (HFIN.out _).1, (HFIN.out _).2, HSPC.out, below_setRow HB7.out.2.2.2.2 (by omega) _⟩
end Go.Proofs.YtecacjddggljgaaDoor

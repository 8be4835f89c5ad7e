/-
  What Prove answers is taken by Check, and tells what the list has. What marlstonelaw12's shown answers: a contract over this translation. What is proved of one key tells of another: what the law SeekOther answers, for any arguments.
-/
import Derived.Test.YtecacjddggljgaaDoorPartDB
import Derived.Test.YtecacjddggljgaaDoorPartCJ
import Derived.Test.YtecacjddggljgaaDoorPartAH
namespace Go.Proofs.YtecacjddggljgaaDoor
open Go.RowKit Go.Sort Go.Shelf
set_option linter.unusedSectionVars false
variable [Inhabited E] [DecidableEq E]
theorem sole_bytes {e : E} (h : rightB e = true) : soleOf (bytesB e) = some e := by
  have hp := parse_bytes e h []
  rw [List.append_nil] at hp
  unfold soleOf
  rw [hp]
  simp
theorem fit_ks {l : List E} (h : fitB l = true) : Ks l := by
  unfold fitB at h; simp only [Bool.and_eq_true] at h; exact sortedB_ks.1 h.2
theorem fit_right {l : List E} (h : fitB l = true) {i : Nat} (hi : i < l.length) : rightB l[i]! = true := by
  have := List.all_eq_true.1 (fit_all h) l[i]! (by rw [getElem!_pos l i hi]; exact List.getElem_mem hi)
  exact this
theorem open_real {z : Int} {es : List E} {ls : List Sm.LV} {i : Nat} {o : Opn} (hf : fitB es = true) (hb : Sm.bytesL ls = es.map bytesB) (hi : i < es.length) (ho : opnIs z ls i o) : entryO z (Sm.rootD z (es.map bytesB)) (es.length : Int) o = some es[i]! := by
  obtain ⟨h1, h2, h3⟩ := ho
  have hl : ls.length = es.length := by
    have := congrArg List.length hb
    simpa [Sm.bytesL] using this
  have hbs : o.bs = bytesB es[i]! := by
    rw [hb, List.getElem?_map, List.getElem?_eq_getElem hi] at h2
    rw [getElem!_pos es i hi]
    simpa using h2.symm
  have hn := (fit_len hf).2
  obtain ⟨p, hp⟩ : ∃ p, ls[i]? = some p := ⟨_, List.getElem?_eq_getElem (by omega)⟩
  have hpb : p.bs = o.bs := by
    unfold Sm.bytesL at h2
    rw [List.getElem?_map, hp] at h2
    simpa using h2
  have hck : Sm.ckB z (Sm.rootD z (es.map bytesB)) (es.length : Int) o.at_ o.bs o.ds = true := by
    unfold Sm.ckB
    have hd : o.ds = Sm.besideD z ls (Sm.spanS (Sm.upL ls.length i)) := by
      rw [h3]; unfold Sm.pathD; rw [if_pos (by omega), Int.toNat_natCast]
    have hc := Sm.climb_path z ls i p hp (by omega)
    rw [h1, Int.toNat_natCast, Int.toNat_natCast, hd, ← hl, ← hpb, hc, hb]
    rw [Bool.and_eq_true, decide_eq_true_eq]
    refine ⟨⟨by omega, by omega, ?_⟩, by simp⟩
    unfold Sm.besideD Sm.spanS
    simp
  unfold entryO
  rw [if_pos hck, hbs]
  exact sole_bytes (fit_right hf hi)
theorem prove_checks {z : Int} {es : List E} {key : ByteArray} {bt : Bool} {A B : Opn} {er : Int} (hf : fitB es = true) (hc : covB es[0]!.key es[es.length - 1]!.key key = true) (h : proveS z es key bt A B er) :
    er = 0 ∧ chkO z (Sm.rootD z (es.map bytesB)) (es.length : Int) es[0]!.key es[es.length - 1]!.key key bt A B = some (if isIn key es = true then some es[belowN key es]! else none) := by
  unfold proveS at h
  rw [if_pos hf, if_pos hc] at h
  obtain ⟨ls, hb, rfl, hbt, h⟩ := h
  refine ⟨rfl, ?_⟩
  have hks := fit_ks hf
  have hii := ks_isIn key hks
  unfold chkO
  rw [hc]
  by_cases hi : isIn key es = true
  · rw [if_pos hi] at h ⊢
    obtain ⟨hA, rfl⟩ := h
    have hq := isIn_below hi
    rw [hi] at hbt hii
    have hbt' : bt = false := hbt
    subst hbt'
    have hk : es[belowN key es]!.key = key := by
      have := hii.symm
      simp only [Bool.and_eq_true, decide_eq_true_eq] at this
      exact this.2
    rw [open_real hf hb hq hA]
    unfold chkM
    have he : emptyO zeroO = true := by decide
    simp only [hk, he]
    simp
  · rw [if_neg hi] at h ⊢
    obtain ⟨h1, hA, hB⟩ := h
    have hi' : isIn key es = false := by simpa using hi
    obtain ⟨-, hq⟩ := cov_below (fit_len hf).1 hc hi'
    rw [hi'] at hbt hii
    have hbt' : bt = true := hbt
    subst hbt'
    have c1 : cmpS es[belowN key es - 1]!.key key < 0 := (ks_place key hks _ (by omega)).2 (by omega)
    have c2 : cmpS key es[belowN key es]!.key < 0 := by
      have c3 : ¬ cmpS es[belowN key es]!.key key < 0 := fun h => by have := (ks_place key hks _ hq).1 h; omega
      have c4 : es[belowN key es]!.key ≠ key := fun h => by
        rw [h] at hii
        simp [hq] at hii
      have c5 : cmpS es[belowN key es]!.key key ≠ 0 := fun h => c4 (cmpS_eq.1 h)
      exact (cmpS_ord.anti _ _).2 (by omega)
    have e1 := open_real hf hb (by omega : belowN key es - 1 < es.length) hA
    have e2 := open_real hf hb hq hB
    rw [e1]
    unfold saB
    rw [e2]
    unfold chkM saM
    have e3 : B.at_ = A.at_ + 1 := by rw [hA.1, hB.1]; omega
    simp only [c1, c2, e3, decide_true, Bool.and_self, if_true]
end Go.Proofs.YtecacjddggljgaaDoor
namespace Go.Proofs.YtecacjddggljgaaDoor
open Go.RowKit Go.Sort Go.Shelf
set_option linter.unusedSectionVars false
variable [Inhabited E] [DecidableEq E]
theorem size54 : (Tryd.prog.info? 54).map (·.size) = some 4 := by kernel_rfl
def eA : E := ⟨⟨#[97]⟩, ⟨#[]⟩, false, 1⟩
def eC : E := ⟨⟨#[99]⟩, ⟨#[]⟩, false, 2⟩
theorem fit_AC : fitB [eA, eC] = true := by decide
theorem cov_b : covB [eA, eC][0]!.key [eA, eC][[eA, eC].length - 1]!.key ⟨#[98]⟩ = true := by show covB eA.key eC.key _ = _; decide
theorem cov_c : covB [eA, eC][0]!.key [eA, eC][[eA, eC].length - 1]!.key ⟨#[99]⟩ = true := by show covB eA.key eC.key _ = _; decide
theorem cov_d : covB [eA, eC][0]!.key [eA, eC][[eA, eC].length - 1]!.key ⟨#[100]⟩ = false := by show covB eA.key eC.key _ = _; decide
theorem in_b : isIn ⟨#[98]⟩ [eA, eC] = false ∧ belowN ⟨#[98]⟩ [eA, eC] = 1 := by decide
theorem in_c : isIn ⟨#[99]⟩ [eA, eC] = true ∧ belowN ⟨#[99]⟩ [eA, eC] = 1 := by decide
theorem prove_AC {ao : Option Addr} {c : Nat} {W : World} (key : ByteArray) (hE : EntsV W ao 2 [eA, eC]) (hK : Sm.WW W 1 Sm.ks) (hz0 : 1 < W.heap.size) : Calls Tryd.prog 12 #[.agg #[.int .i64 256], .slice ao 2 c, .string key] W fun e w' => ∃ bt A B er, e = .returned (.tuple #[.agg (pointC bt A B), .int .i64 er]) ∧ OpnV w' A ∧ OpnV w' B ∧ proveS 256 [eA, eC] key bt A B er ∧ Below W.heap.size W w' :=
  prove_any 256 ao 2 c [eA, eC] key W hE (right_small (fit_all fit_AC)) (by omega) hK hz0 (by omega)
theorem shown_b {ao : Option Addr} {c : Nat} {W : World} (hE : EntsV W ao 2 [eA, eC]) (hK : Sm.WW W 1 Sm.ks) (hz0 : 1 < W.heap.size) : Calls Tryd.prog 12 #[.agg #[.int .i64 256], .slice ao 2 c, .string ⟨#[98]⟩] W fun e w' => (∃ lo ln lc po pn pc lo2 ln2 lc2 po2 pn2 pc2, e = .returned (.tuple #[.agg #[.bool true, .int .i64 0, .slice lo ln lc, .slice po pn pc, .int .i64 1, .slice lo2 ln2 lc2, .slice po2 pn2 pc2], .int .i64 0])) ∧ Below W.heap.size W w' := by
  refine (prove_AC ⟨#[98]⟩ hE hK hz0).mono ?_
  rintro e w' ⟨bt, ⟨a, lo, ln, lc, bs, po, pn, pc, ds⟩, ⟨a2, lo2, ln2, lc2, bs2, po2, pn2, pc2, ds2⟩, er, rfl, -, -, hp, hb⟩
  unfold proveS at hp
  rw [if_pos fit_AC, if_pos cov_b] at hp
  obtain ⟨ls, -, rfl, hbt, hp⟩ := hp
  rw [in_b.1, in_b.2] at hp
  rw [in_b.1] at hbt
  have hbt' : bt = true := hbt
  rw [if_neg (by simp)] at hp
  obtain ⟨-, ⟨h1, -⟩, ⟨h2, -⟩⟩ := hp
  have h1' : a = 0 := h1
  have h2' : a2 = 1 := h2
  subst hbt' h1' h2'
  exact ⟨⟨_, _, _, _, _, _, _, _, _, _, _, _, rfl⟩, hb⟩
theorem shown_d {ao : Option Addr} {c : Nat} {W : World} (hE : EntsV W ao 2 [eA, eC]) (hK : Sm.WW W 1 Sm.ks) (hz0 : 1 < W.heap.size) : Calls Tryd.prog 12 #[.agg #[.int .i64 256], .slice ao 2 c, .string ⟨#[100]⟩] W fun e w' => e = .returned (.tuple #[.agg zeroP, .int .i64 5]) ∧ Below W.heap.size W w' := by
  refine (prove_AC ⟨#[100]⟩ hE hK hz0).mono ?_
  rintro e w' ⟨bt, A, B, er, rfl, -, -, hp, hb⟩
  unfold proveS at hp
  rw [if_pos fit_AC, cov_d, if_neg (by simp)] at hp
  obtain ⟨rfl, rfl, rfl, rfl⟩ := hp
  exact ⟨rfl, hb⟩
theorem shown_c {ao : Option Addr} {c : Nat} {W : World} (hE : EntsV W ao 2 [eA, eC]) (hK : Sm.WW W 1 Sm.ks) (hz0 : 1 < W.heap.size) : Calls Tryd.prog 12 #[.agg #[.int .i64 256], .slice ao 2 c, .string ⟨#[99]⟩] W fun e w' => (∃ A : Opn, e = .returned (.tuple #[.agg (pointC false A zeroO), .int .i64 0]) ∧ OpnV w' A ∧ A.at_ = 1 ∧ chkO 256 (Sm.rootD 256 ([eA, eC].map bytesB)) 2 ⟨#[97]⟩ ⟨#[99]⟩ ⟨#[99]⟩ false A zeroO = some (some eC)) ∧ Below W.heap.size W w' := by
  refine (prove_AC ⟨#[99]⟩ hE hK hz0).mono ?_
  rintro e w' ⟨bt, A, B, er, rfl, hV, -, hp, hb⟩
  obtain ⟨-, hc⟩ := prove_checks fit_AC cov_c hp
  unfold proveS at hp
  rw [if_pos fit_AC, if_pos cov_c] at hp
  obtain ⟨ls, -, rfl, hbt, hp⟩ := hp
  rw [in_c.1, in_c.2] at hp
  rw [in_c.1] at hbt
  have hbt' : bt = false := hbt
  rw [if_pos rfl] at hp
  obtain ⟨⟨h1, -⟩, rfl⟩ := hp
  subst hbt'
  rw [in_c.1, in_c.2, if_pos rfl] at hc
  exact ⟨⟨A, rfl, hV, h1, hc⟩, hb⟩
theorem ents_AC (w : World) : Ents (w.alloc (Obj.cells (flatE [eA, eC]).toArray 54)) w.heap.size 0 [eA, eC] := fun j u hu => by
  have hb : (w.alloc (Obj.cells (flatE [eA, eC]).toArray 54)).heap[w.heap.size]? = some (Obj.cells (flatE [eA, eC]).toArray 54) := by rw [heap_alloc_get, if_pos rfl]
  rw [Nat.zero_add, cell_of_row _ _ _ _ _ _ hb]
  simpa using hu
theorem stored {w3 W4 : World} {old cs : Array Value} {t : TypeId} (h : (w3.alloc (.cells old t)).setRow w3.heap.size cs = W4) : W4.heap[w3.heap.size]? = some (.cells cs t (0, 0)) ∧ Below w3.heap.size w3 W4 ∧ W4.heap.size = w3.heap.size + 1 := by
  subst h
  exact ⟨setRow_heap _ _ _ _ _ _ (heap_alloc_new w3 _), below_setRow (bel_alloc w3 _) (Nat.le_refl _) _, by simp⟩
set_option maxRecDepth 100000 in
set_option maxHeartbeats 4000000 in
theorem shown12_any (w : World) (hK : Sm.WW w 1 Sm.ks) (hz0 : 1 < w.heap.size) : Calls Tryd.prog 10 #[] w fun e w' => e = .returned (.bool true) ∧ Below w.heap.size w w' := by
  obtain ⟨W2, HW2⟩ : ∃ W, Hid (((w.alloc (Obj.cells #[Value.int IntKind.i64 0] 26)).setRow w.heap.size #[Value.int IntKind.i64 256]).alloc (Obj.cells #[Value.string { data := #[97] }, Value.string { data := #[] }, Value.bool false, Value.int IntKind.i64 1, Value.string { data := #[99] }, Value.string { data := #[] }, Value.bool false, Value.int IntKind.i64 2] 54) = W) := ⟨_, rfl⟩
  have hs1 : ((w.alloc (Obj.cells #[Value.int IntKind.i64 0] 26)).setRow w.heap.size #[Value.int IntKind.i64 256]).heap.size = w.heap.size + 1 := by simp
  have hb1 : Below w.heap.size w ((w.alloc (Obj.cells #[Value.int IntKind.i64 0] 26)).setRow w.heap.size #[Value.int IntKind.i64 256]) := below_setRow (bel_alloc w _) (Nat.le_refl _) _
  have hr1 : ((w.alloc (Obj.cells #[Value.int IntKind.i64 0] 26)).setRow w.heap.size #[Value.int IntKind.i64 256]).heap[w.heap.size]? = some (.cells #[.int .i64 256] 26 (0, 0)) := setRow_heap _ _ _ _ _ _ (heap_alloc_new w _)
  have hs2 : W2.heap.size = w.heap.size + 2 := by rw [← HW2.out]; simp
  have hb2 : Below w.heap.size w W2 := by rw [← HW2.out]; exact hb1.alloc (by omega) _
  have hr2 : W2.heap[w.heap.size]? = some (.cells #[.int .i64 256] 26 (0, 0)) := by rw [← HW2.out, Below.heap_alloc _ _ _ (by omega)]; exact hr1
  have he2 : EntsV W2 (some ⟨w.heap.size + 1, 0, none⟩) 2 [eA, eC] := ⟨rfl, fun _ => ⟨_, _, rfl, by rw [← HW2.out, ← hs1]; exact ents_AC _⟩⟩
  have HV : Hid (∀ V, Below (w.heap.size + 2) W2 V → EntsV V (some ⟨w.heap.size + 1, 0, none⟩) 2 [eA, eC] ∧ Sm.WW V 1 Sm.ks ∧ 1 < V.heap.size ∧ V.heap[w.heap.size]? = some (.cells #[.int .i64 256] 26 (0, 0)) ∧ Below w.heap.size w V ∧ w.heap.size + 2 ≤ V.heap.size) := fun V hV =>
    ⟨he2.below hV (by omega), (hK.below hb2 hz0).below hV (by omega), by have := hV.size; omega, (hV.block _ (by omega)).trans hr2, hb2.trans (hV.mono (by omega)), by have := hV.size; omega⟩
  have HS2 : Hid (W2.heap.size = w.heap.size + 2) := hs2
  obtain ⟨d, HD⟩ : ∃ d, Hid (Sm.rootD 256 ([eA, eC].map bytesB) = d) := ⟨_, rfl⟩
  have HDL : Hid (d.length = 32) := by show _ = _; rw [← HD.out]; exact Sm.rootD_length _ _
  obtain ⟨kk, HKK⟩ : ∃ k, Hid (tabC 0 2 d ⟨#[97]⟩ ⟨#[99]⟩ = k) := ⟨_, rfl⟩
  have HKS : Hid (kk.size = 36) := by show _ = _; rw [← HKK.out]; exact tabC_size _ _ HDL.out _ _
  have HKA : Hid (kk.all (·.oneCell') = true) := by show _ = _; rw [← HKK.out]; exact tabC_all _ _ _ _ _
  have HZ : Hid ((zeroT).size = 36) := tabC_size 0 0 (by simp) _ _
  have HLOW : Hid (w.heap.size + 1 < w.heap.size + 2) := by show _ < _; omega
  clear hs1 hb1 hr1 hs2 hb2 hr2 he2 hK hz0
  go_enter Tryd.func10, Tryd.ntmps10
  go_upto_region 2 with (refine wpList_store_row rfl 26 (.tmp 1) (.tmp 14) rfl w.heap.size #[.int .i64 256] rfl rfl 26 #[.int .i64 0] (heap_alloc_new _ _) size26 rfl (by simp [Value.oneCell']) ?_)
  go_upto_region 3 with fail
  rw [HW2.out]
  have HV2 : Hid _ := HV.out W2 (Below.refl _ _)
  go_wp2_with (refine wpList_load_row rfl 26 (.tmp 1) rfl w.heap.size rfl 26 #[.int .i64 256] (0, 0) _ HV2.out.2.2.2.1 Tryd.underlying26 rfl size26 ?_)
  refine Calls.mono (shown_b HV2.out.1 HV2.out.2.1 HV2.out.2.2.1) ?_
  rintro e w3 ⟨⟨lo, ln, lc, po, pn, pc, lo2, ln2, lc2, po2, pn2, pc2, rfl⟩, hb3⟩
  have HB3 : Hid (Below (w.heap.size + 2) W2 w3) := by have h := hb3; rw [HS2.out] at h; exact h
  clear hb3 HV2
  go_upto_region 4 with (refine wpList_store_row rfl 32 (.tmp 3) (.tmp 22) rfl w3.heap.size #[.bool true, .int .i64 0, .slice lo ln lc, .slice po pn pc, .int .i64 1, .slice lo2 ln2 lc2, .slice po2 pn2 pc2] rfl rfl 32 zeroP (heap_alloc_new w3 _) size32 rfl (one7 _ _ _ _ _ _ _ _ _ _ _ _ _ _ _) ?_)
  generalize hW4 : World.setRow _ _ _ = W4
  have HR3 : Hid _ := stored hW4
  have HB4 : Hid (Below (w.heap.size + 2) W2 W4) := HB3.out.trans (HR3.out.2.1.mono (by have := HB3.out.size; have := HS2.out; omega))
  have HV4 : Hid _ := HV.out W4 HB4.out
  clear hW4
  go_wp2_with (refine wpList_load_row rfl 26 (.tmp 1) rfl w.heap.size rfl 26 #[.int .i64 256] (0, 0) _ HV4.out.2.2.2.1 Tryd.underlying26 rfl size26 ?_)
  refine Calls.mono (shown_c HV4.out.1 HV4.out.2.1 HV4.out.2.2.1) ?_
  rintro e w5 ⟨⟨⟨a5, lo5, ln5, lc5, bs5, po5, pn5, pc5, ds5⟩, rfl, hV5, ha5, hc5⟩, hb5⟩
  have ha5' : a5 = 1 := ha5
  subst ha5'
  have HC5 : Hid _ := And.intro hV5 hc5
  have HB5 : Hid (Below W4.heap.size W4 w5) := hb5
  clear hb5 HV4 ha5 hV5 hc5
  simp only [pointC, zeroO]
  go_upto_region 5 with (refine wpList_store_row rfl 32 (.tmp 5) (.tmp 28) rfl w5.heap.size #[.bool false, .int .i64 1, .slice lo5 ln5 lc5, .slice po5 pn5 pc5, .int .i64 0, .slice none 0 0, .slice none 0 0] rfl rfl 32 zeroP (heap_alloc_new w5 _) size32 rfl (one7 _ _ _ _ _ _ _ _ _ _ _ _ _ _ _) ?_)
  generalize hW6 : World.setRow _ _ _ = W6
  have HR5 : Hid _ := stored hW6
  have HB6 : Hid (Below W4.heap.size W4 W6) := HB5.out.trans (HR5.out.2.1.mono HB5.out.size)
  have HB62 : Hid (Below (w.heap.size + 2) W2 W6) := HB4.out.trans (HB6.out.mono (by have := HB4.out.size; have := HS2.out; omega))
  have HV6 : Hid _ := HV.out W6 HB62.out
  clear hW6
  go_wp2_with (refine wpList_load_row rfl 26 (.tmp 1) rfl w.heap.size rfl 26 #[.int .i64 256] (0, 0) _ HV6.out.2.2.2.1 Tryd.underlying26 rfl size26 ?_)
  refine Calls.mono (shown_d HV6.out.1 HV6.out.2.1 HV6.out.2.2.1) ?_
  rintro e w7 ⟨rfl, hb7⟩
  have HB7 : Hid (Below W6.heap.size W6 w7) := hb7
  clear hb7 HV6
  go_upto_region 6 with (refine wpList_store_row rfl 32 (.tmp 7) (.tmp 34) rfl w7.heap.size zeroP rfl rfl 32 zeroP (heap_alloc_new w7 _) size32 rfl zeroP_one ?_)
  generalize hW8 : World.setRow _ _ _ = W8
  have HR7 : Hid _ := stored hW8
  have HB8 : Hid (Below W6.heap.size W6 W8) := HB7.out.trans (HR7.out.2.1.mono HB7.out.size)
  have HB82 : Hid (Below (w.heap.size + 2) W2 W8) := HB62.out.trans (HB8.out.mono (by have := HB62.out.size; have := HS2.out; omega))
  have HV8 : Hid _ := HV.out W8 HB82.out
  clear hW8
  go_wp2_with (refine wpList_load_row rfl 26 (.tmp 1) rfl w.heap.size rfl 26 #[.int .i64 256] (0, 0) _ HV8.out.2.2.2.1 Tryd.underlying26 rfl size26 ?_)
  have hds := describe_some 256 0 (w.heap.size + 1) 0 2 2 [eA, eC] W8 HV8.out.1 fit_AC (by omega) HV8.out.2.1 HV8.out.2.2.1 (by omega) (by have := HV8.out.2.2.2.2.2; omega)
  rw [HD.out] at hds
  have HDS : Hid (Calls Tryd.prog 30 #[.agg #[.int .i64 256], .int .i64 0, .slice (some ⟨w.heap.size + 1, 0, none⟩) 2 2] W8 fun e w' => e = .returned (.tuple #[.agg kk, .int .i64 0]) ∧ Below W8.heap.size W8 w') := by rw [← HKK.out]; exact hds
  clear hds
  refine Calls.mono HDS.out ?_
  rintro e w9 ⟨rfl, hb9⟩
  have HB9 : Hid (Below W8.heap.size W8 w9) := hb9
  clear hb9 HV8 HDS
  go_upto_region 7 with (refine wpList_store_row rfl 48 (.tmp 9) (.tmp 40) rfl w9.heap.size kk rfl rfl 48 zeroT (heap_alloc_new w9 _) (by rw [size48, HKS.out]) (by rw [HKS.out, HZ.out]) HKA.out ?_)
  generalize hW10 : World.setRow _ _ _ = W10
  have HR9 : Hid _ := stored hW10
  have HB10 : Hid (Below W8.heap.size W8 W10) := HB9.out.trans (HR9.out.2.1.mono HB9.out.size)
  have HB102 : Hid (Below (w.heap.size + 2) W2 W10) := HB82.out.trans (HB10.out.mono (by have := HB82.out.size; have := HS2.out; omega))
  have HV10 : Hid _ := HV.out W10 HB102.out
  have HW6 : Hid (Below W6.heap.size W6 W10) := HB8.out.trans (HB10.out.mono HB8.out.size)
  have HW4 : Hid (Below W4.heap.size W4 W10) := HB6.out.trans (HW6.out.mono HB6.out.size)
  have HR10 : Hid (W10.heap[w3.heap.size]? = some (.cells #[.bool true, .int .i64 0, .slice lo ln lc, .slice po pn pc, .int .i64 1, .slice lo2 ln2 lc2, .slice po2 pn2 pc2] 32 (0, 0)) ∧ W10.heap[w5.heap.size]? = some (.cells #[.bool false, .int .i64 1, .slice lo5 ln5 lc5, .slice po5 pn5 pc5, .int .i64 0, .slice none 0 0, .slice none 0 0] 32 (0, 0)) ∧ w3.heap.size < W10.heap.size ∧ w5.heap.size < W10.heap.size) := by
    have h1 := HR3.out.2.2
    have h2 := HR5.out.2.2
    have h3 := HW4.out.size
    have h4 := HW6.out.size
    exact ⟨(HW4.out.block _ (by omega)).trans HR3.out.1, (HW6.out.block _ (by omega)).trans HR5.out.1, by omega, by omega⟩
  have hO10 : OpnV W10 ⟨1, lo5, ln5, lc5, bs5, po5, pn5, pc5, ds5⟩ := HC5.out.1.keep ((HR5.out.2.1).trans (HW6.out.mono (by have := HR5.out.2.2; omega)))
  have hck := check12_any 256 0 2 d ⟨#[97]⟩ ⟨#[99]⟩ ⟨#[99]⟩ false ⟨1, lo5, ln5, lc5, bs5, po5, pn5, pc5, ds5⟩ zeroO W10 HDL.out (by omega) hO10 (zeroO_V _) HV10.out.2.1 HV10.out.2.2.1 (by omega)
  have hc5 := HC5.out.2
  rw [HD.out] at hc5
  rw [hc5, HKK.out] at hck
  have HCK : Hid (Calls Tryd.prog 23 #[.agg #[.int .i64 256], .agg kk, .string ⟨#[99]⟩, .agg #[.bool false, .int .i64 1, .slice lo5 ln5 lc5, .slice po5 pn5 pc5, .int .i64 0, .slice none 0 0, .slice none 0 0]] W10 fun e w' => e = .returned (.tuple #[.agg #[.string ⟨#[99]⟩, .string ⟨#[]⟩, .bool false, .int .i64 2], .bool true, .int .i64 0]) ∧ Below W10.heap.size W10 w') := hck
  clear hW10 hck hc5 hO10
  go_wp2_with (first | (refine wpList_load_row rfl 26 (.tmp 1) rfl w.heap.size rfl 26 #[.int .i64 256] (0, 0) _ HV10.out.2.2.2.1 Tryd.underlying26 rfl size26 ?_) | (refine wpList_load_row rfl 48 (.tmp 9) rfl w9.heap.size rfl 48 kk (0, 0) _ HR9.out.1 Tryd.underlying48 rfl (by rw [size48, HKS.out]) ?_) | (refine wpList_load_row rfl 32 (.tmp 5) rfl w5.heap.size rfl 32 #[.bool false, .int .i64 1, .slice lo5 ln5 lc5, .slice po5 pn5 pc5, .int .i64 0, .slice none 0 0, .slice none 0 0] (0, 0) _ HR10.out.2.1 Tryd.underlying32 rfl size32 ?_))
  refine Calls.mono HCK.out ?_
  rintro e w11 ⟨rfl, hb11⟩
  have HB11 : Hid (Below W10.heap.size W10 w11) := hb11
  clear hb11 HCK
  go_upto_region 8 with (refine wpList_store_row rfl 54 (.tmp 11) (.tmp 47) rfl w11.heap.size #[.string ⟨#[99]⟩, .string ⟨#[]⟩, .bool false, .int .i64 2] rfl rfl 54 #[.string ⟨#[]⟩, .string ⟨#[]⟩, .bool false, .int .i64 0] (heap_alloc_new w11 _) size54 rfl (by simp [Value.oneCell']) ?_)
  generalize hW12 : World.setRow _ _ _ = W12
  obtain ⟨r1, r2, r3⟩ := stored hW12
  have hb12 : Below W10.heap.size W10 W12 := HB11.out.trans (r2.mono HB11.out.size)
  have HB12 : Hid (Below w.heap.size w W12) := HV10.out.2.2.2.2.1.trans (hb12.mono HV10.out.2.2.2.2.1.size)
  have q3 : W12.heap[w3.heap.size]? = some (.cells #[.bool true, .int .i64 0, .slice lo ln lc, .slice po pn pc, .int .i64 1, .slice lo2 ln2 lc2, .slice po2 pn2 pc2] 32 (0, 0)) := (hb12.block _ HR10.out.2.2.1).trans HR10.out.1
  have q5 : W12.heap[w5.heap.size]? = some (.cells #[.bool false, .int .i64 1, .slice lo5 ln5 lc5, .slice po5 pn5 pc5, .int .i64 0, .slice none 0 0, .slice none 0 0] 32 (0, 0)) := (hb12.block _ HR10.out.2.2.2).trans HR10.out.2.1
  have c30 : W12.cell? ⟨w3.heap.size, 0, none⟩ = some (.bool true) := by rw [cell_of_row _ _ _ _ _ _ q3]; rfl
  have c31 : W12.cell? ⟨w3.heap.size, 1, none⟩ = some (.int .i64 0) := by rw [cell_of_row _ _ _ _ _ _ q3]; rfl
  have c34 : W12.cell? ⟨w3.heap.size, 4, none⟩ = some (.int .i64 1) := by rw [cell_of_row _ _ _ _ _ _ q3]; rfl
  have c50 : W12.cell? ⟨w5.heap.size, 0, none⟩ = some (.bool false) := by rw [cell_of_row _ _ _ _ _ _ q5]; rfl
  have c51 : W12.cell? ⟨w5.heap.size, 1, none⟩ = some (.int .i64 1) := by rw [cell_of_row _ _ _ _ _ _ q5]; rfl
  have ce3 : W12.cell? ⟨w11.heap.size, 3, none⟩ = some (.int .i64 2) := by rw [cell_of_row _ _ _ _ _ _ r1]; rfl
  clear hW12 r1 r2 r3 hb12 q3 q5
  go_wp2
  go_ret
  exact ⟨rfl, HB12.out⟩
end Go.Proofs.YtecacjddggljgaaDoor
namespace Go.Proofs.YtecacjddggljgaaDoor
open Go.RowKit Go.Sort Go.Shelf
set_option linter.unusedSectionVars false
variable [Inhabited E] [DecidableEq E]
theorem own_entsL {w : World} {base : Nat} {v : Value} {n : Nat} {es : List E} (h : w.ownsRow base 54 4 v n (flatE es)) (hn : es.length = n) : ∃ ao c, v = .slice ao n c ∧ EntsV w ao n es ∧ (∀ x, ao = some x → x.block < w.heap.size) := by
  obtain ⟨ao, c, hv, hE⟩ := own_entsV h hn
  refine ⟨ao, c, hv, hE, fun x hx => ?_⟩
  rcases h.2 with ⟨h1, -⟩ | ⟨g, cap, cur, h1, h2, h3, -⟩
  · rw [hv] at h1; cases h1; cases hx
  · rw [hv] at h1; cases h1; cases hx; exact (Array.getElem?_eq_some_iff.1 h3).1
theorem check_other {z : Int} {es : List E} {key other : ByteArray} {bt : Bool} {A B : Opn} {er : Int} (hf : fitB es = true) (hc : covB es[0]!.key es[es.length - 1]!.key key = true) (hc2 : covB es[0]!.key es[es.length - 1]!.key other = true) (h : proveS z es key bt A B er) :
    er = 0 ∧ (chkO z (Sm.rootD z (es.map bytesB)) (es.length : Int) es[0]!.key es[es.length - 1]!.key other bt A B).isSome = (decide (key = other) || (!isIn key es && (!isIn other es && decide (belowN key es = belowN other es)))) := by
  unfold proveS at h
  rw [if_pos hf, if_pos hc] at h
  obtain ⟨ls, hb, rfl, hbt, h⟩ := h
  refine ⟨rfl, ?_⟩
  have hks := fit_ks hf
  have hii := ks_isIn key hks
  have hio := ks_isIn other hks
  unfold chkO
  rw [hc2]
  by_cases hi : isIn key es = true
  · rw [if_pos hi] at h
    obtain ⟨hA, rfl⟩ := h
    have hq := isIn_below hi
    rw [hi] at hbt hii
    have hbt' : bt = false := hbt
    subst hbt'
    have hk : es[belowN key es]!.key = key := by
      have := hii.symm
      simp only [Bool.and_eq_true, decide_eq_true_eq] at this
      exact this.2
    rw [open_real hf hb hq hA, hi]
    unfold chkM
    have he : emptyO zeroO = true := by decide
    simp only [hk, he]
    by_cases h1 : key = other
    · simp [h1]
    · simp [h1]
  · rw [if_neg hi] at h
    obtain ⟨h1, hA, hB⟩ := h
    have hi' : isIn key es = false := by simpa using hi
    obtain ⟨-, hq⟩ := cov_below (fit_len hf).1 hc hi'
    rw [hi'] at hbt hii
    have hbt' : bt = true := hbt
    subst hbt'
    have c1 := ks_place key hks (belowN key es - 1) (by omega)
    have c2 : cmpS key es[belowN key es]!.key < 0 := by
      have c3 : ¬ cmpS es[belowN key es]!.key key < 0 := fun h => by have := (ks_place key hks _ hq).1 h; omega
      have c4 : es[belowN key es]!.key ≠ key := fun h => by
        rw [h] at hii
        simp [hq] at hii
      have c5 : cmpS es[belowN key es]!.key key ≠ 0 := fun h => c4 (cmpS_eq.1 h)
      exact (cmpS_ord.anti _ _).2 (by omega)
    have e1 := open_real hf hb (by omega : belowN key es - 1 < es.length) hA
    have e2 := open_real hf hb hq hB
    rw [e1]
    unfold saB
    rw [e2]
    have e3 : B.at_ = A.at_ + 1 := by rw [hA.1, hB.1]; omega
    have hM : ∀ a b : Prop, ∀ [Decidable a] [Decidable b], (chkM true true other (saM B.at_ (A.at_ + 1) other (some es[belowN key es]!)) (emptyO B) (some es[belowN key es - 1]!)).isSome = (decide (cmpS es[belowN key es - 1]!.key other < 0) && decide (cmpS other es[belowN key es]!.key < 0)) := by
      intro a b _ _
      unfold chkM saM
      simp only [e3, decide_true, Bool.true_and, if_true]
      split
      · rename_i h; rw [h]; rfl
      · rename_i h; simp only [Bool.not_eq_true] at h; rw [h]; rfl
    rw [hM True True, hi']
    have p1 := ks_place other hks (belowN key es - 1) (by omega)
    have p2 := ks_place other hks (belowN key es) hq
    by_cases hko : key = other
    · rw [← hko, decide_eq_true (c1.2 (by omega)), decide_eq_true c2, decide_eq_true rfl]; rfl
    · rw [decide_eq_false hko]
      by_cases hbo : belowN key es = belowN other es
      · rw [← hbo] at p1 p2 hio
        rw [decide_eq_true (p1.2 (by omega)), decide_eq_true hbo]
        have p3 : ¬ cmpS es[belowN key es]!.key other < 0 := fun h => by have := p2.1 h; omega
        by_cases hkk : es[belowN key es]!.key = other
        · have : isIn other es = true := by rw [hio, decide_eq_true hq, decide_eq_true hkk]; rfl
          rw [this, hkk, decide_eq_false (by have := (cmpS_eq (a := other) (b := other)).2 rfl; omega)]; rfl
        · have : isIn other es = false := by rw [hio, decide_eq_false hkk, Bool.and_false]
          have c5 : cmpS es[belowN key es]!.key other ≠ 0 := fun h => hkk (cmpS_eq.1 h)
          rw [this, decide_eq_true ((cmpS_ord.anti _ _).2 (by omega))]; rfl
      · rw [decide_eq_false hbo, Bool.and_false, Bool.and_false, Bool.or_false]
        by_cases q1 : cmpS es[belowN key es - 1]!.key other < 0
        · have q2 : ¬ cmpS other es[belowN key es]!.key < 0 := fun h => by
            have a1 := p1.1 q1
            have a2 : ¬ cmpS es[belowN key es]!.key other < 0 := fun h2 => by have := (cmpS_ord.anti _ _).1 h; omega
            have a3 : ¬ belowN key es < belowN other es := fun h2 => a2 (p2.2 h2)
            omega
          rw [decide_eq_false q2, Bool.and_false]
        · rw [decide_eq_false q1, Bool.false_and]
end Go.Proofs.YtecacjddggljgaaDoor

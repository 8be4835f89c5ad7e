/-
  Rows of entries, and what slices.Clone answers at them: a contract over this translation.
-/
import Derived.Test.YteggjenncmjfmaaFoldMath
import Derived.Lib.SliceRun
namespace Go.Proofs.Yteggjenncmjfmaa
open Go.RowKit Go.Sort Go.Shelf
set_option linter.unusedSectionVars false
variable [Inhabited E]
theorem encE_len (x : E) : (encE x).length = 4 := rfl
theorem encE_one (x : E) : ∀ v ∈ encE x, v.oneCell' = true := by
  intro v hv
  simp [encE] at hv
  rcases hv with rfl | rfl | rfl | rfl <;> rfl
/-- The cells of entries. -/
def flatE (es : List E) : List Value := es.flatMap encE
theorem flatE_nil : flatE [] = [] := rfl
theorem flatE_cons (e : E) (es : List E) : flatE (e :: es) = encE e ++ flatE es := by simp [flatE]
theorem flatE_append (a b : List E) : flatE (a ++ b) = flatE a ++ flatE b := by simp [flatE]
theorem flatE_len : ∀ es : List E, (flatE es).length = es.length * 4
  | [] => rfl
  | e :: es => by rw [flatE_cons, List.length_append, flatE_len es, encE_len, List.length_cons]; omega
theorem flatE_one (es : List E) : ∀ u ∈ flatE es, u.oneCell' = true := by
  intro u hu
  simp only [flatE, List.mem_flatMap] at hu
  obtain ⟨x, _, hx⟩ := hu
  exact encE_one x u hx
theorem flatE_at : ∀ (es : List E) (i c : Nat), i < es.length → c < 4 → (flatE es)[i * 4 + c]? = (encE es[i]!)[c]?
  | [], i, c, h, _ => by simp at h
  | e :: es, 0, c, _, hc => by
    rw [flatE_cons, Nat.zero_mul, Nat.zero_add, List.getElem?_append_left (by rw [encE_len]; exact hc)]; rfl
  | e :: es, i + 1, c, h, hc => by
    rw [flatE_cons, List.getElem?_append_right (by rw [encE_len]; omega), encE_len, show (i + 1) * 4 + c - 4 = i * 4 + c by omega, flatE_at es i c (by simpa using h) hc]
    simp
theorem flatE_get (es : List E) (t : Nat) (h : t < es.length * 4) : (flatE es)[t]? = (encE es[t / 4]!)[t % 4]? := by
  have := flatE_at es (t / 4) (t % 4) (by omega) (by omega)
  rwa [show t / 4 * 4 + t % 4 = t by omega] at this
theorem encE_get! (e : E) (c : Nat) (h : c < 4) : (encE e)[c]? = some (encE e)[c]! := by
  rw [getElem!_pos _ c (by rw [encE_len]; exact h), List.getElem?_eq_getElem]
theorem info23 : (Try.prog.info? 29).map (fun i => (i.zero, i.size, i.bytes)) = some (some (.agg #[.string ByteArray.empty, .string ByteArray.empty, .bool false, .int .i64 0]), 4, 48) := by kernel_rfl
/-- The cells of entries lie at b, off. -/
def Ents (w : World) (b off : Nat) (es : List E) : Prop := ∀ j u, (flatE es)[j]? = some u → w.cell? ⟨b, off + j, none⟩ = some u
theorem Ents.below {w w' : World} {b off B : Nat} {es : List E} (h : Ents w b off es) (hb : Below B w w') (hB : w.heap.size ≤ B) : Ents w' b off es := fun j u hu => by
  have h1 := h j u hu
  rw [← h1]
  exact World.cell?_of_block (hb.block b (by have := World.block_lt_of_cell? w _ h1; exact Nat.lt_of_lt_of_le this hB))
theorem Ents.lt {w : World} {b off : Nat} {es : List E} (h : Ents w b off es) (hp : 0 < es.length) : b < w.heap.size := by
  have h0 := flatE_get es 0 (by omega)
  rw [Nat.zero_mod, encE_get! _ 0 (by decide)] at h0
  exact World.block_lt_of_cell? w _ (h 0 _ h0)
theorem get!_toList (d : Array E) (i : Nat) : d.toList[i]! = d[i]! := by
  by_cases h : i < d.size
  · rw [getElem!_pos d i h, getElem!_pos d.toList i (by simpa using h)]; simp
  · rw [getElem!_neg d i h, getElem!_neg d.toList i (by simpa using h)]
theorem own_ents {w : World} {base g n cap : Nat} {es : List E} (h : w.ownsRow base 29 4 (.slice (some ⟨g, 0, none⟩) n cap) n (flatE es)) : Ents w g 0 es := fun j u hu => by
  have := h.cells (g := g) rfl j u hu
  rw [Addr.add_lit] at this
  exact this
set_option maxRecDepth 100000 in
set_option maxHeartbeats 1000000 in
theorem clone_any (b off n c : Nat) (es : List E) (w : World) (hl : es.length = n) (hE : Ents w b off es) (hbig : n ≤ 1000000000000) (hn : 0 < n) :
    Calls Try.prog 25 #[.slice (some ⟨b, off, none⟩) n c] w fun e w' => ∃ g cap, e = .returned (.slice (some ⟨g, 0, none⟩) n cap) ∧ w.heap.size ≤ g ∧ w'.ownsRow w.heap.size 29 4 (.slice (some ⟨g, 0, none⟩) n cap) n (flatE es) ∧ Below w.heap.size w w' := by
  obtain ⟨i0, hi, hz0, hz1, hz2⟩ := info_parts info23
  have HE : Hid (Ents (w.alloc (.cells #[] 29)) b off es) := hE.below (bel_alloc w _) (Nat.le_refl _)
  clear hE
  have HO : Hid ((w.alloc (.cells #[] 29)).ownsRow w.heap.size 29 4 (.slice (some ⟨w.heap.size, 0, none⟩) 0 0) 0 []) := World.ownsRow_made w #[] 0 (Nat.le_refl _) (by decide) rfl
  have HL : Hid ((flatE es).length = n * 4) := by show _ = _; rw [flatE_len, hl]
  have HB : Hid (w.heap.size ≤ (w.alloc (.cells #[] 29)).heap.size) := by show _ ≤ _; simp
  have q35 : ∀ (w : World) (a : Option Addr) (n c n' c' : Nat), (binOp .eql 25 (.slice a n c) (.slice none n' c')).run Try.prog w = .ok (.bool a.isNone) w := fun w a n c n' c' => Lib.run_eql_slice_nil w _ _ a n c n' c' Try.underlying25
  go_enter Try.func25, Try.ntmps25
  go_wp2_with (at_builtin; refine wpList_append_own _ rfl (.tmp 5) (.tmp 6) 25 rfl w.heap.size 29 i0 _ 4 48 Try.underlying25 hi hz0 hz1 hz2 rfl (by decide) _ 0 [] rfl HO.out ⟨b, off, none⟩ n c (flatE es) rfl HL.out (fun j u hu => by rw [Addr.add_lit]; exact HE.out j u hu) (flatE_one es) (by unfold maxLen; omega) (by omega) HB.out ?_)
  intro v' w1 hown hgr hv
  have hbel : Below w.heap.size w w1 := (bel_alloc w _).trans ((Below.refl _ _).grown hgr HB.out (fun k hk => by cases hk; exact Nat.le_refl _))
  obtain ⟨g, cap, rfl, hg⟩ : ∃ g cap, v' = .slice (some ⟨g, 0, none⟩) n cap ∧ w.heap.size ≤ g := by
    rcases hown.2 with ⟨_, h0⟩ | ⟨g, cap, cur, hv, hg, _⟩
    · omega
    · exact ⟨g, cap, hv, hg⟩
  clear hv hgr
  have HF : Hid _ := hown
  clear hown
  go_wp2
  go_ret
  exact ⟨g, cap, rfl, hg, HF.out, hbel⟩
end Go.Proofs.Yteggjenncmjfmaa

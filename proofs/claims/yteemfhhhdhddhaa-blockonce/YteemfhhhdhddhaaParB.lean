/-
  What block.Parse and block.Seek answer: contracts over this translation.
-/
import Derived.Test.YteemfhhhdhddhaaListP
namespace Go.Proofs.Yteemfhhhdhddhaa
open Go.RowKit Go.Sort Go.Shelf
set_option linter.unusedSectionVars false
variable [Inhabited E] [DecidableEq E]
/-- The bytes are the block of l, and of no other list. -/
def IsBlock (bs : List UInt8) (l : List E) : Prop := fitB l = true ∧ blockB l = bs ∧ ∀ l0, fitB l0 = true → blockB l0 = bs → l0 = l
def NoBlock (bs : List UInt8) : Prop := ∀ l, fitB l = true → blockB l ≠ bs
theorem isBlock_of {l : List E} {bs : List UInt8} (hf : fitB l = true) (hb : blockB l = bs) : ¬ NoBlock bs := fun h => h l hf hb
def ParSays (bs : List UInt8) (e : Ending) (w' : World) : Prop :=
  (e = .returned (.tuple #[.slice none 0 0, .int .i64 2]) ∧ NoBlock bs) ∨ ∃ l ao c, e = .returned (.tuple #[.slice ao l.length c, .int .i64 0]) ∧ IsBlock bs l ∧ EntsV w' ao l.length l ∧ l.length ≤ c ∧ c ≤ 9223372036854775807
theorem own_same {w w' : World} {base n g : Nat} {v : Value} {xs : List Value} (h : w.ownsRow base 23 4 v n xs) (hg : ∀ k, k ≠ g → w'.heap[k]? = w.heap[k]?) (hgb : g < base) : w'.ownsRow base 23 4 v n xs := by
  refine ⟨h.1, ?_⟩
  rcases h.2 with h2 | ⟨k, cap, cur, h1, h2, h3, h4⟩
  · exact .inl h2
  · refine .inr ⟨k, cap, cur, h1, h2, ?_, h4⟩
    rw [hg k (by omega)]
    exact h3
theorem own_caps {w : World} {base : Nat} {v : Value} {l : List E} (h : w.ownsRow base 23 4 v l.length (flatE l)) : ∃ ao c, v = .slice ao l.length c ∧ EntsV w ao l.length l ∧ l.length ≤ c ∧ c ≤ 9223372036854775807 := by
  obtain ⟨ao, c, h1, h2⟩ := own_out h
  refine ⟨ao, c, h1, h2, ?_⟩
  rcases h.2 with ⟨h3, h4⟩ | ⟨k, cap, cur, h3, _, _, h5, h6, _⟩
  · rw [h1] at h3
    obtain ⟨_, e2, e3⟩ := Value.slice.inj h3
    omega
  · rw [h1] at h3
    obtain ⟨_, e2, e3⟩ := Value.slice.inj h3
    unfold maxLen at h6
    omega
theorem parseb_any (ao : Option Addr) (n c : Nat) (bs : List UInt8) (w : World) (hb : Bytes w ao n bs) (hnc : n ≤ c) (hc : c ≤ 9223372036854775807) (hn : n ≤ 1000000) :
    Calls Try.prog 40 #[.slice ao n c] w fun e w' => Below w.heap.size w w' ∧ ParSays bs e w' := by
  refine parse_of_list ao n c w _ (fun o => ?_)
  refine (list_any ao n c bs (w.alloc o) (bytes_kept hb (bel_alloc w o) (Nat.le_refl _)) hnc hc hn).mono ?_
  rintro e w' ⟨hbel, h⟩
  have hbel' : Below (w.heap.size + 1) (w.alloc o) w' := by simpa using hbel
  refine ⟨hbel', ?_⟩
  rcases h with ⟨rfl, hno⟩ | ⟨l, v, rfl, h1, h2, h3, h4⟩
  · exact .inl ⟨rfl, fun w'' hw => ⟨hw, .inl ⟨rfl, hno⟩⟩⟩
  · refine .inr ⟨v, rfl, fun w'' hk hw => ⟨hw, .inr ?_⟩⟩
    have h5 := own_same (g := w.heap.size) h4 hk (by simp)
    obtain ⟨ao', c', rfl, h6, h7, h8⟩ := own_caps h5
    exact ⟨l, ao', c', rfl, ⟨h1, h2, h3⟩, h6, h7, h8⟩
def zeroE : Value := .agg #[.string ByteArray.empty, .string ByteArray.empty, .bool false, .int .i64 0]
/-- What Seek tells of a list. -/
def seekV (l : List E) (key : ByteArray) : Value := if belowN key l < l.length then .tuple #[.agg (encE l[belowN key l]!).toArray, .bool true, .int .i64 0] else .tuple #[zeroE, .bool false, .int .i64 0]
def SeekSays (bs : List UInt8) (key : ByteArray) (e : Ending) : Prop :=
  (e = .returned (.tuple #[zeroE, .bool false, .int .i64 2]) ∧ NoBlock bs) ∨ ∃ l, e = .returned (seekV l key) ∧ IsBlock bs l
set_option maxRecDepth 100000 in
set_option maxHeartbeats 1000000 in
theorem seek_any (ao : Option Addr) (n c : Nat) (bs : List UInt8) (key : ByteArray) (w : World) (hb : Bytes w ao n bs) (hnc : n ≤ c) (hc : c ≤ 9223372036854775807) (hn : n ≤ 1000000) :
    Calls Try.prog 42 #[.slice ao n c, .string key] w fun e w' => Below w.heap.size w w' ∧ SeekSays bs key e := by
  have HCP : Hid (∀ o, Calls Try.prog 40 #[.slice ao n c] (w.alloc o) fun e w' => Below (w.alloc o).heap.size (w.alloc o) w' ∧ ParSays bs e w') := fun o => parseb_any ao n c bs (w.alloc o) (bytes_kept hb (bel_alloc w o) (Nat.le_refl _)) hnc hc hn
  clear hb
  go_enter Try.func42, Try.ntmps42
  go_wp2_with fail
  refine (HCP.out _).mono ?_
  rintro e w1 ⟨hb1, he⟩
  have hR : w1.heap[w.heap.size]? = some (.cells #[.string ByteArray.empty, .string ByteArray.empty, .bool false, .int .i64 0] 23 (0, 0)) := by
    rw [hb1.block w.heap.size (by simp)]; exact heap_alloc_new w _
  have HR : Hid _ := hR
  have HB1 : Hid (Below w.heap.size w w1) := (bel_alloc w _).trans (hb1.mono (by simp))
  have r0 : w1.cell? ⟨w.heap.size, 0, none⟩ = some (.string ByteArray.empty) := by simp [World.cell?, hR]
  have r1 : w1.cell? ⟨w.heap.size, 1, none⟩ = some (.string ByteArray.empty) := by simp [World.cell?, hR]
  have r2 : w1.cell? ⟨w.heap.size, 2, none⟩ = some (.bool false) := by simp [World.cell?, hR]
  have r3 : w1.cell? ⟨w.heap.size, 3, none⟩ = some (.int .i64 0) := by simp [World.cell?, hR]
  have y0 : ∀ j, w1.frozen? ⟨w.heap.size, j, none⟩ = false := fun j => by simp [World.frozen?, hR]
  clear hb1 hR HCP
  rcases he with ⟨rfl, hno⟩ | ⟨l, ao', c', rfl, hIB, hEV, hl, hcl⟩
  · have HNO : Hid (NoBlock bs) := hno
    clear hno
    go_wp2
    refine bodyPost_ret (results_entry3 rfl _ _ w.heap.size 23 _ _ rfl (heap_four _ _ _ _ _ _ _ _ _ _ _ HR.out) (by exact size23)) rfl ?_
    exact ⟨bel_four HB1.out (Nat.le_refl _) _ _ _ _, .inl ⟨rfl, HNO.out⟩⟩
  · have HIB : Hid (IsBlock bs l) := hIB
    have hle := belowN_le key l
    have hlen := (fit_len hIB.1).2
    have CF := find_any ao' l.length c' l key w1 hEV (by omega)
    obtain ⟨L, HLL⟩ : ∃ L, Hid (l.length = L) := ⟨_, rfl⟩
    obtain ⟨p, HP⟩ : ∃ p, Hid (belowN key l = p) := ⟨_, rfl⟩
    have HEV : Hid (EntsV w1 ao' l.length l) := hEV
    rw [HLL.out] at CF hl hle HEV hlen ⊢
    rw [HP.out] at CF hle
    have HCF : Hid _ := CF
    clear CF hIB hEV r0 r1 r2 r3 y0
    go_wp2_with fail
    refine Calls.mono HCF.out ?_
    rintro e w2 ⟨rfl, hb2⟩
    have hR2 : w2.heap[w.heap.size]? = some (.cells #[.string ByteArray.empty, .string ByteArray.empty, .bool false, .int .i64 0] 23 (0, 0)) := by
      rw [hb2.block w.heap.size (Array.getElem?_eq_some_iff.1 HR.out).1]; exact HR.out
    have HR2 : Hid _ := hR2
    have HB2 : Hid (Below w.heap.size w w2) := HB1.out.trans (hb2.mono HB1.out.size)
    have HEV2 : Hid (EntsV w2 ao' L l) := HEV.out.below hb2 (Nat.le_refl _)
    have r0 : w2.cell? ⟨w.heap.size, 0, none⟩ = some (.string ByteArray.empty) := by simp [World.cell?, hR2]
    have r1 : w2.cell? ⟨w.heap.size, 1, none⟩ = some (.string ByteArray.empty) := by simp [World.cell?, hR2]
    have r2 : w2.cell? ⟨w.heap.size, 2, none⟩ = some (.bool false) := by simp [World.cell?, hR2]
    have r3 : w2.cell? ⟨w.heap.size, 3, none⟩ = some (.int .i64 0) := by simp [World.cell?, hR2]
    have y0 : ∀ j, w2.frozen? ⟨w.heap.size, j, none⟩ = false := fun j => by simp [World.frozen?, hR2]
    clear hb2 hR2 HCF HEV HR
    by_cases hp : p < L
    · have hpz : (p : Int) < (L : Int) := lt_z hp
      have hpe : ((p : Int) == (L : Int)) = false := beq_no (Nat.ne_of_lt hp)
      have HSV : Hid (seekV l key = .tuple #[.agg (encE l[p]!).toArray, .bool true, .int .i64 0]) := by show _ = _; unfold seekV; rw [HP.out, HLL.out, if_pos hp]
      obtain ⟨b, off, hao, hEn⟩ := HEV2.out.2 (Nat.lt_of_le_of_lt (Nat.zero_le _) hp)
      subst hao
      obtain ⟨k0, v0, d0, q0, HX⟩ : ∃ k0 v0 d0 q0, Hid (l[p]! = E.mk k0 v0 d0 q0) := ⟨_, _, _, _, rfl⟩
      obtain ⟨c0, c1, c2, c3⟩ := ents_four hEn p (by rw [HLL.out]; exact hp) HX.out
      clear hEn
      go_wp2
      refine bodyPost_ret (results_entry3 rfl _ _ w.heap.size 23 _ _ rfl (heap_four _ _ _ _ _ _ _ _ _ _ _ HR2.out) (by exact size23)) rfl ?_
      refine ⟨bel_four HB2.out (Nat.le_refl _) _ _ _ _, .inr ⟨l, ?_, HIB.out⟩⟩
      rw [HSV.out, HX.out]
      rfl
    · have hpl : p = L := Nat.le_antisymm hle (Nat.le_of_not_lt hp)
      have hpe : ((p : Int) == (L : Int)) = true := beq_yes hpl
      have HSV : Hid (seekV l key = .tuple #[zeroE, .bool false, .int .i64 0]) := by show _ = _; unfold seekV; rw [HP.out, HLL.out, if_neg hp]
      clear hpl hp
      go_wp2
      refine bodyPost_ret (results_entry3 rfl _ _ w.heap.size 23 _ _ rfl (heap_four _ _ _ _ _ _ _ _ _ _ _ HR2.out) (by exact size23)) rfl ?_
      refine ⟨bel_four HB2.out (Nat.le_refl _) _ _ _ _, .inr ⟨l, ?_, HIB.out⟩⟩
      rw [HSV.out]
      rfl
end Go.Proofs.Yteemfhhhdhddhaa

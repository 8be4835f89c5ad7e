/-
  The walk over marlstonelaw01.CodecRow.
-/
import Derived.Test.YtlomimhildbkoaaBack
import Derived.Deep.RegionHeld3
namespace Go.Proofs.Ytlomimhildbkoaa
open Go.RowKit

/-- The bytes of a row of texts. -/
def rowB : List (List UInt8) → List UInt8
  | [] => []
  | t :: ts => textB t ++ rowB ts

theorem rowB_append (a b : List (List UInt8)) : rowB (a ++ b) = rowB a ++ rowB b := by
  induction a with
  | nil => rfl
  | cons t ts ih => simp [rowB, ih]

theorem rowB_snoc (a : List (List UInt8)) (t : List UInt8) : rowB (a ++ [t]) = rowB a ++ textB t := by
  rw [rowB_append]; simp [rowB]

/-- What is put of a string: three hundred bytes of it at most. -/
def cut (s : ByteArray) : List UInt8 := strB (s.extract 0 (min s.size 300))
def cuts (ss : List ByteArray) : List (List UInt8) := (ss.take 50).map cut

theorem cut_le (s : ByteArray) : (cut s).length ≤ 300 := by
  unfold cut
  rw [strB_length, ByteArray.size_extract]
  omega

theorem textB_le (t : List UInt8) : (textB t).length ≤ t.length + 10 := by
  unfold textB
  rw [List.length_append]
  have := putB_le t.length
  omega

theorem textB_pos (t : List UInt8) : 1 ≤ (textB t).length := by
  unfold textB
  rw [List.length_append]
  have := putB_pos t.length
  omega

theorem cuts_at (ss : List ByteArray) (k : Nat) (h : k < ss.length) (h50 : k < 50) : (cuts ss).drop k = cut ss[k] :: (cuts ss).drop (k + 1) := by
  have h2 : k < (cuts ss).length := by simp [cuts]; omega
  rw [List.drop_eq_getElem_cons h2]
  simp [cuts]
theorem cuts_take (ss : List ByteArray) (k : Nat) (h : k < ss.length) (h50 : k < 50) : (cuts ss).take (k + 1) = (cuts ss).take k ++ [cut ss[k]] := by
  have h2 : k < (cuts ss).length := by simp [cuts]; omega
  rw [List.take_succ_eq_append_getElem h2]
  simp [cuts]
theorem cuts_end (ss : List ByteArray) (k : Nat) (h : ¬ (k < ss.length ∧ k < 50)) : (cuts ss).drop k = [] ∧ (cuts ss).take k = cuts ss := by
  have hl : (cuts ss).length ≤ k := by simp [cuts]; omega
  exact ⟨List.drop_eq_nil_of_le hl, List.take_of_length_le hl⟩

theorem bytes_drew1 {w : World} {ao : Option Addr} {n : Nat} {bs : List UInt8} (h : Bytes w ao n bs) : Bytes w.drew ao n bs := bytes_kept h (Below.drew (Below.refl w.heap.size w)) (Nat.le_refl _)

/-- codec.PutText behind any bytes, the answer written out. -/
theorem putText_read (ao : Option Addr) (n cap : Nat) (bs : List UInt8) (s : ByteArray) (w : World) (hn : n ≤ cap) (hcap : cap ≤ 9223372036854775807) (h0 : ao = none → cap = 0) (hb : Bytes w ao n bs) (hbig : n + s.size ≤ 140737488355000) :
    Calls Try.prog 11 #[.slice ao n cap, .string s] w fun e w' => ∃ ao' n' c', e = .returned (.slice ao' n' c') ∧ Bytes w' ao' n' (bs ++ textB (strB s)) ∧ n' ≤ c' ∧ c' ≤ 9223372036854775807 ∧ (ao' = none → c' = 0) ∧ n' ≤ n + s.size + 10 ∧ Below w.heap.size w w' := by
  refine (putText_any ao n cap bs s w hn hcap h0 hb hbig).mono ?_
  rintro e w' ⟨v', rfl, hown, hbel⟩
  obtain ⟨ao', c', rfl, hb', h1, h2, h3, h4, _⟩ := own_bytes hown
  have hl := textB_le (strB s)
  rw [strB_length] at hl
  have hbl := hb.1
  exact ⟨ao', _, c', rfl, hb', h2, by unfold maxLen at h3; omega, h1, by rw [List.length_append]; omega, hbel⟩

theorem str_back (s : ByteArray) : (⟨(strB s).toArray⟩ : ByteArray) = s := by
  cases s
  simp [strB]

theorem text_put2 (ao : Option Addr) (n cap : Nat) (s : ByteArray) (ms : List UInt8) (t : Nat) (ht : (textB (strB s)).length = t) (w : World) (h : Bytes w ao n (textB (strB s) ++ ms)) (hs : s.size < 18446744073709551616) (hn : n ≤ cap) (hcap : cap ≤ 9223372036854775807) :
    Calls Try.prog 20 #[.slice ao n cap] w fun e w' => e = .returned (.tuple #[.string s, .int .i64 t, .bool true]) ∧ w' = w := by
  have hg := text_put ao n cap (strB s) ms t ht w h (by rw [strB_length]; exact hs) hn hcap
  rw [str_back s] at hg
  exact hg

theorem bytes_any {w : World} {ao ao' : Option Addr} {n : Nat} {bs : List UInt8} (h : Bytes w ao n bs) (hn : n = 0) : Bytes w ao' n bs := by
  subst hn
  have hb : bs = [] := List.eq_nil_of_length_eq_zero h.1
  subst hb
  exact ⟨rfl, fun i c hi => by simp at hi⟩

/-- What is left behind the first text. -/
theorem rest_bytes {w : World} {g o n : Nat} {a b : List UInt8} {t : Nat} (h : Bytes w (some ⟨g, o, none⟩) n (a ++ b)) (ht : a.length = t) : Bytes w (some ⟨g, o + t, none⟩) (n - t) b := by
  have hd := bytes_drop h t
  rw [← ht, List.drop_left] at hd
  rw [← ht]
  exact hd

set_option maxRecDepth 100000 in
set_option maxHeartbeats 1000000 in
theorem row_walk (b off len cap : Nat) (ss : List ByteArray) (w : World) (hl : ss.length = len) (hlen : len ≤ 9223372036854775807) (hss : ∀ k (h : k < ss.length), ss[k].size ≤ 9223372036854775807)
    (hc : ∀ k (h : k < ss.length), w.cell? ⟨b, off + k, none⟩ = some (.string ss[k])) :
    Calls Try.prog 8 #[.slice (some ⟨b, off, none⟩) len cap] w fun e w' => e = .returned (.bool true) ∧ Below w.heap.size w w' := by
  go_enter Try.func8, Try.ntmps8
  go_wp2_with fail
  refine (shown_any w).mono ?_
  rintro e w1 ⟨rfl, hbel⟩
  go_wp2
  go_loopw [4, 5] (fun v i wr => ∃ (k : Nat) (ao : Option Addr) (n c : Nat), k ≤ len ∧ k ≤ 50 ∧ i = .int .i64 k ∧ v = .slice ao n c ∧ Bytes wr ao n (rowB ((cuts ss).take k)) ∧ n ≤ c ∧ c ≤ 9223372036854775807 ∧ (ao = none → c = 0) ∧ n ≤ 310 * k ∧ Below w.heap.size w wr) (fun _ i _ => len - (intOf i).toNat)
  case atStart => exact ⟨0, none, 0, 0, by omega, by omega, rfl, rfl, bytes_nil _, by omega, by omega, fun _ => rfl, by omega, hbel⟩
  case round =>
    obtain ⟨k, ao, n, c, hk, hk50, rfl, rfl, hb, hnc, hcm, h0, hn, hbr⟩ := hrel
    by_cases hlt : k < len ∧ k < 50
    · obtain ⟨hlt, h50⟩ := hlt
      obtain ⟨sk, hsk⟩ : ∃ sk, sk = ss[k] := ⟨_, rfl⟩
      have hcell : w.cell? ⟨b, off + k, none⟩ = some (.string sk) := by rw [hsk]; exact hc k (by omega)
      have hblk : b < w.heap.size := World.block_lt_of_cell? w _ hcell
      have hcr : wr.cell? ⟨b, off + k, none⟩ = some (.string sk) := by rw [hbr.cell (p := ⟨b, off + k, none⟩) hblk]; exact hcell
      have hsz : sk.size ≤ 9223372036854775807 := by rw [hsk]; exact hss k (by omega)
      obtain ⟨m, hm, hm1, hm2⟩ : ∃ m : Nat, min (sk.size : Int) 300 = (m : Int) ∧ m ≤ 300 ∧ m ≤ sk.size := ⟨min sk.size 300, by omega, by omega, by omega⟩
      have HT : Hid ((cuts ss).take (k + 1) = (cuts ss).take k ++ [strB (sk.extract 0 m)]) := by
        show _ = _
        rw [cuts_take ss k (by omega) h50, ← hsk]
        have : m = min sk.size 300 := by omega
        rw [this]; rfl
      have hes : (sk.extract 0 m).size ≤ 300 := by rw [ByteArray.size_extract]; omega
      have hbr1 := hbr.size
      clear hsk hcell hc hss
      have hi1 : (0 : Int) ≤ (k : Int) := by omega
      have hi2 : (k : Int) < (len : Int) := by omega
      have hi3 : (0 : Int) ≤ (m : Int) := by omega
      have hi4 : (m : Int) ≤ (sk.size : Int) := by omega
      go_wp2
      have hbd := bytes_drew1 hb
      have hblk2 : b < wr.heap.size := by omega
      go_region_held3 (fun w' => w'.cell? ⟨b, off + k, none⟩ = some (.string sk)) (first | assumption | go_keep) ((go_at_call 11; refine (putText_read ao n c _ (sk.extract 0 m) _ hnc hcm h0 hbd (by omega)).mono ?_; rintro e w2 ⟨ao2, n2, c2, rfl, hb2, hnc2, hcm2, h02, hn2, hbel2⟩; have hc2 := (hbel2.cell (p := ⟨b, off + k, none⟩) hblk2).trans hcr))
      have hbr2 : Below w.heap.size w w2 := hbr.trans (((Below.drew (Below.refl _ _)).trans hbel2).mono hbr.size)
      clear hb hbd hbr hbel2 hc2 hcr
      go_wp2
      go_roundw
      case rel => exact ⟨k + 1, ao2, n2, c2, by omega, by omega, by go_num, rfl, by rw [HT.out, rowB_snoc]; exact hb2, hnc2, hcm2, h02, by omega, hbr2⟩
      case measure => simp [intOf]; omega
    · have HE : Hid ((cuts ss).take k = cuts ss) := (cuts_end ss k (by rw [hl]; exact hlt)).2
      rcases (show (¬ k < len) ∨ (k < len ∧ ¬ k < 50) by omega) with h1 | ⟨h1, h2⟩
      · clear hlt
        go_wp2
        go_loopw [4, 6] (fun v i wr => ∃ (j : Nat) (ao : Option Addr) (n c : Nat), j ≤ len ∧ j ≤ 50 ∧ i = .int .i64 j ∧ v = .slice ao n c ∧ Bytes wr ao n (rowB ((cuts ss).drop j)) ∧ n ≤ c ∧ c ≤ 9223372036854775807 ∧ Below w.heap.size w wr) (fun _ i _ => len - (intOf i).toNat)
        case atStart => exact ⟨0, ao, n, c, by omega, by omega, rfl, rfl, by rw [List.drop_zero, ← HE.out]; exact hb, hnc, hcm, hbr⟩
        case round =>
          clear hb hbr HE hn h0 hcm hnc
          obtain ⟨j, ao, n, c, hj, hj50, rfl, rfl, hb, hnc, hcm, hbr⟩ := hrel
          by_cases hjt : j < len ∧ j < 50
          · obtain ⟨hjt, h50⟩ := hjt
            obtain ⟨sk, hsk⟩ : ∃ sk, sk = ss[j] := ⟨_, rfl⟩
            have hcell : w.cell? ⟨b, off + j, none⟩ = some (.string sk) := by rw [hsk]; exact hc j (by omega)
            have hblk : b < w.heap.size := World.block_lt_of_cell? w _ hcell
            have hcr : wr.cell? ⟨b, off + j, none⟩ = some (.string sk) := by rw [hbr.cell (p := ⟨b, off + j, none⟩) hblk]; exact hcell
            have hsz : sk.size ≤ 9223372036854775807 := by rw [hsk]; exact hss j (by omega)
            obtain ⟨m, hm, hm1, hm2⟩ : ∃ m : Nat, min (sk.size : Int) 300 = (m : Int) ∧ m ≤ 300 ∧ m ≤ sk.size := ⟨min sk.size 300, by omega, by omega, by omega⟩
            obtain ⟨tl, htl⟩ : ∃ tl, (textB (strB (sk.extract 0 m))).length = tl := ⟨_, rfl⟩
            have hdr : rowB ((cuts ss).drop j) = textB (strB (sk.extract 0 m)) ++ rowB ((cuts ss).drop (j + 1)) := by
              rw [cuts_at ss j (by omega) h50, ← hsk]
              have : m = min sk.size 300 := by omega
              rw [this]; rfl
            have hes : (sk.extract 0 m).size ≤ 300 := by rw [ByteArray.size_extract]; omega
            rw [hdr] at hb
            have htl1 : 1 ≤ tl := by rw [← htl]; exact textB_pos _
            have htl2 : tl ≤ n := by rw [← htl, ← hb.1, List.length_append]; omega
            obtain ⟨g, o, rfl, _⟩ := bytes_at hb (by omega)
            have hrest := rest_bytes hb htl
            have HC := text_put2 (some ⟨g, o, none⟩) n c (sk.extract 0 m) _ tl htl wr hb (by omega) hnc hcm
            have hbr1 := hbr.size
            clear hsk hcell hc hss hdr htl hb
            have hi1 : (0 : Int) ≤ (j : Int) := by omega
            have hi2 : (j : Int) < (len : Int) := by omega
            have hi3 : (0 : Int) ≤ (m : Int) := by omega
            have hi4 : (m : Int) ≤ (sk.size : Int) := by omega
            have hd1 : decide ((tl : Int) < 1) = false := by simp; omega
            have hd3 : decide (n < tl) = false := by simp; omega
            go_wp2_with fail
            refine HC.mono ?_
            rintro e w2 ⟨rfl, hw⟩
            subst hw
            go_wp2
            go_region_held3 (fun w' => w'.cell? ⟨b, off + j, none⟩ = some (.string sk)) (first | assumption | go_keep) (fail)
            have hbrd : Below w.heap.size w w2.drew := hbr.drew
            have hrestd := bytes_drew1 hrest
            have hi5 : (tl : Int) ≤ (n : Int) := by omega
            have hi6 : (n : Int) ≤ (c : Int) := by omega
            clear hbr hrest hcr hd1 hd3 HC
            by_cases hce : tl < c
            · go_wp2
              go_roundw
              case rel => exact ⟨j + 1, _, n - tl, c - tl, by omega, by omega, by go_num, rfl, hrestd, by omega, by omega, hbrd⟩
              case measure => simp [intOf]; omega
            · have hre2 : Bytes w2.drew (some ⟨g, o, none⟩) (n - tl) (rowB ((cuts ss).drop (j + 1))) := bytes_any hrestd (by omega)
              go_wp2
              go_roundw
              case rel => exact ⟨j + 1, _, n - tl, c - tl, by omega, by omega, by go_num, rfl, hre2, by omega, by omega, hbrd⟩
              case measure => simp [intOf]; omega
          · have hn0 : n = 0 := by
              have h := hb.1
              rw [(cuts_end ss j (by rw [hl]; exact hjt)).1] at h
              exact h.symm
            subst hn0
            clear hc hss hb
            have hj1 : ¬ j < len := by omega
            clear hjt
            go_wp2
            go_ret
            exact ⟨rfl, hbr⟩
      · clear hlt
        go_wp2
        go_loopw [4, 6] (fun v i wr => ∃ (j : Nat) (ao : Option Addr) (n c : Nat), j ≤ len ∧ j ≤ 50 ∧ i = .int .i64 j ∧ v = .slice ao n c ∧ Bytes wr ao n (rowB ((cuts ss).drop j)) ∧ n ≤ c ∧ c ≤ 9223372036854775807 ∧ Below w.heap.size w wr) (fun _ i _ => len - (intOf i).toNat)
        case atStart => exact ⟨0, ao, n, c, by omega, by omega, rfl, rfl, by rw [List.drop_zero, ← HE.out]; exact hb, hnc, hcm, hbr⟩
        case round =>
          clear hb hbr HE hn h0 hcm hnc
          obtain ⟨j, ao, n, c, hj, hj50, rfl, rfl, hb, hnc, hcm, hbr⟩ := hrel
          by_cases hjt : j < len ∧ j < 50
          · obtain ⟨hjt, h50⟩ := hjt
            obtain ⟨sk, hsk⟩ : ∃ sk, sk = ss[j] := ⟨_, rfl⟩
            have hcell : w.cell? ⟨b, off + j, none⟩ = some (.string sk) := by rw [hsk]; exact hc j (by omega)
            have hblk : b < w.heap.size := World.block_lt_of_cell? w _ hcell
            have hcr : wr.cell? ⟨b, off + j, none⟩ = some (.string sk) := by rw [hbr.cell (p := ⟨b, off + j, none⟩) hblk]; exact hcell
            have hsz : sk.size ≤ 9223372036854775807 := by rw [hsk]; exact hss j (by omega)
            obtain ⟨m, hm, hm1, hm2⟩ : ∃ m : Nat, min (sk.size : Int) 300 = (m : Int) ∧ m ≤ 300 ∧ m ≤ sk.size := ⟨min sk.size 300, by omega, by omega, by omega⟩
            obtain ⟨tl, htl⟩ : ∃ tl, (textB (strB (sk.extract 0 m))).length = tl := ⟨_, rfl⟩
            have hdr : rowB ((cuts ss).drop j) = textB (strB (sk.extract 0 m)) ++ rowB ((cuts ss).drop (j + 1)) := by
              rw [cuts_at ss j (by omega) h50, ← hsk]
              have : m = min sk.size 300 := by omega
              rw [this]; rfl
            have hes : (sk.extract 0 m).size ≤ 300 := by rw [ByteArray.size_extract]; omega
            rw [hdr] at hb
            have htl1 : 1 ≤ tl := by rw [← htl]; exact textB_pos _
            have htl2 : tl ≤ n := by rw [← htl, ← hb.1, List.length_append]; omega
            obtain ⟨g, o, rfl, _⟩ := bytes_at hb (by omega)
            have hrest := rest_bytes hb htl
            have HC := text_put2 (some ⟨g, o, none⟩) n c (sk.extract 0 m) _ tl htl wr hb (by omega) hnc hcm
            have hbr1 := hbr.size
            clear hsk hcell hc hss hdr htl hb
            have hi1 : (0 : Int) ≤ (j : Int) := by omega
            have hi2 : (j : Int) < (len : Int) := by omega
            have hi3 : (0 : Int) ≤ (m : Int) := by omega
            have hi4 : (m : Int) ≤ (sk.size : Int) := by omega
            have hd1 : decide ((tl : Int) < 1) = false := by simp; omega
            have hd3 : decide (n < tl) = false := by simp; omega
            go_wp2_with fail
            refine HC.mono ?_
            rintro e w2 ⟨rfl, hw⟩
            subst hw
            go_wp2
            go_region_held3 (fun w' => w'.cell? ⟨b, off + j, none⟩ = some (.string sk)) (first | assumption | go_keep) (fail)
            have hbrd : Below w.heap.size w w2.drew := hbr.drew
            have hrestd := bytes_drew1 hrest
            have hi5 : (tl : Int) ≤ (n : Int) := by omega
            have hi6 : (n : Int) ≤ (c : Int) := by omega
            clear hbr hrest hcr hd1 hd3 HC
            by_cases hce : tl < c
            · go_wp2
              go_roundw
              case rel => exact ⟨j + 1, _, n - tl, c - tl, by omega, by omega, by go_num, rfl, hrestd, by omega, by omega, hbrd⟩
              case measure => simp [intOf]; omega
            · have hre2 : Bytes w2.drew (some ⟨g, o, none⟩) (n - tl) (rowB ((cuts ss).drop (j + 1))) := bytes_any hrestd (by omega)
              go_wp2
              go_roundw
              case rel => exact ⟨j + 1, _, n - tl, c - tl, by omega, by omega, by go_num, rfl, hre2, by omega, by omega, hbrd⟩
              case measure => simp [intOf]; omega
          · have hn0 : n = 0 := by
              have h := hb.1
              rw [(cuts_end ss j (by rw [hl]; exact hjt)).1] at h
              exact h.symm
            subst hn0
            clear hc hss hb
            have hj1 : j < len := by omega
            have hj2 : ¬ j < 50 := by omega
            clear hjt
            go_wp2
            go_ret
            exact ⟨rfl, hbr⟩

set_option maxRecDepth 100000 in
set_option maxHeartbeats 1000000 in
theorem row_none (ao : Option Addr) (cap : Nat) (w : World) :
    Calls Try.prog 8 #[.slice ao 0 cap] w fun e w' => e = .returned (.bool true) ∧ Below w.heap.size w w' := by
  go_enter Try.func8, Try.ntmps8
  go_wp2_with fail
  refine (shown_any w).mono ?_
  rintro e w1 ⟨rfl, hbel⟩
  go_wp2
  refine wp_loop_rounds 1 ?_
  rw [rounds_succ]
  go_wp2
  refine wp_loop_rounds 1 ?_
  rw [rounds_succ]
  go_wp2
  go_ret
  exact ⟨rfl, hbel⟩
end Go.Proofs.Ytlomimhildbkoaa
